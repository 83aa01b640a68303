"""The best alignments for given costs: their cost, their number, their order, what they put together."""

from rightfares.alignments import MATCH, kinds_of, sequences_of
from rightfares.errors import RightfaresError
from rightfares.nodes import START, alignment_through, best_beginnings, best_rests, moves_from
from rightfares.schemes import cost_of_counts


def least_cost(scheme, first, second, costs):
    """The cost of the best alignments of two sequences."""
    least, _ = best_rests(scheme, first, second, costs)[START]
    return least


def count_best(scheme, first, second, costs):
    """How many best alignments two sequences have."""
    _, many = best_rests(scheme, first, second, costs)[START]
    return many


def best_steps(scheme, first, second, costs, rests, node):
    """The nodes, in the order of their kinds, by which a best rest of an alignment may go on behind a node."""
    least, _ = rests[node]
    steps = []
    for added, reached in moves_from(scheme, first, second, node):
        if rests[reached][0] + cost_of_counts(added, costs) == least:
            steps.append(reached)
    return steps


def best_at(scheme, first, second, costs, index):
    """The best alignment of two sequences that has this number in their order."""
    rests = best_rests(scheme, first, second, costs)
    if index >= rests[START][1]:
        raise RightfaresError("no such alignment")
    nodes = []
    left = index
    steps = best_steps(scheme, first, second, costs, rests, START)
    while steps:
        node, left = step_at(rests, steps, left)
        nodes.append(node)
        steps = best_steps(scheme, first, second, costs, rests, node)
    return alignment_through(first, second, nodes)


def step_at(rests, steps, index):
    """The step behind which the alignment with this number goes on, and its number among those that do so."""
    at = 0
    left = index
    while left >= rests[steps[at]][1]:
        left = left - rests[steps[at]][1]
        at += 1
    return (steps[at], left)


def index_of(scheme, alignment, costs):
    """The number of an alignment among the best ones of its sequences; None if it is not best."""
    first, second = sequences_of(alignment)
    rests = best_rests(scheme, first, second, costs)
    index = 0
    node = START
    for kind in kinds_of(alignment):
        steps = best_steps(scheme, first, second, costs, rests, node)
        kinds = [step[2] for step in steps]
        if kind not in kinds:
            return None
        at = kinds.index(kind)
        # All alignments that go on by an earlier kind come before this one.
        index += sum([rests[step][1] for step in steps[:at]])
        node = steps[at]
    return index


def ways_of_matches(scheme, first, second, costs):
    """For each pair of indexes, ascending, how many best alignments put the two letters into one column."""
    beginnings = best_beginnings(scheme, first, second, costs)
    rests = best_rests(scheme, first, second, costs)
    ways = {(i, j): 0 for i in range(len(first)) for j in range(len(second))}
    for node, (begun, many) in beginnings.items():
        for reached in best_steps(scheme, first, second, costs, rests, node):
            # A beginning is one of a best alignment if it and the best rest make up the least cost.
            if reached[2] == MATCH and begun + rests[node][0] == rests[START][0]:
                ways[(node[0], node[1])] += many * rests[reached][1]
    return ways


def certain_matches(scheme, first, second, costs):
    """The pairs of indexes of letters that stand in one column in every best alignment, ascending."""
    ways = ways_of_matches(scheme, first, second, costs)
    total = count_best(scheme, first, second, costs)
    return [pair for pair, many in ways.items() if many == total]


def possible_matches(scheme, first, second, costs):
    """The pairs of indexes of letters that stand in one column in some best alignment, ascending."""
    ways = ways_of_matches(scheme, first, second, costs)
    return [pair for pair, many in ways.items() if many > 0]
