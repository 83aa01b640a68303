"""The counts that are possible for two sequences, and the alignments that have them."""

from rightfares.nodes import START, alignment_through, moves_from, nodes_of
from rightfares.schemes import size


def counted_rests(scheme, first, second):
    """For each node a dict: the counts that may still be added up to the end, and in how many ways they can be."""
    found = {}
    for node in reversed(nodes_of(first, second)):
        ways = {}
        moves = moves_from(scheme, first, second, node)
        for added, reached in moves:
            for counts, many in found[reached].items():
                longer = tuple([have + more for have, more in zip(counts, added)])
                ways[longer] = ways.get(longer, 0) + many
        if not moves:
            # There are no moves from the end: nothing is added, in one way.
            ways[tuple([0] * size(scheme))] = 1
        found[node] = ways
    return found


def possible_counts(scheme, first, second):
    """The counts of all alignments of two sequences, ascending."""
    ways = counted_rests(scheme, first, second)[START]
    return sorted([list(counts) for counts in ways])


def is_within(counts, others):
    """True if counts are at most as great as others in all places."""
    return all([one <= other for one, other in zip(counts, others)])


def minimal_among(possible):
    """The minimal ones of counts that are ascending."""
    minimal = []
    for counts in possible:
        # What is within these counts comes before them, and what is minimal and within that has been found.
        if not any([is_within(other, counts) for other in minimal]):
            minimal.append(counts)
    return minimal


def minimal_counts(scheme, first, second):
    """The minimal counts of two sequences, ascending."""
    return minimal_among(possible_counts(scheme, first, second))


def count_with(scheme, first, second, counts):
    """How many alignments of two sequences have these counts."""
    return counted_rests(scheme, first, second)[START].get(tuple(counts), 0)


def first_with(scheme, first, second, counts):
    """The first alignment of two sequences that has these counts, or None."""
    rests = counted_rests(scheme, first, second)
    left = tuple(counts)
    if left not in rests[START]:
        return None
    nodes = []
    steps = counted_steps(scheme, first, second, rests, START, left)
    while steps:
        left, node = steps[0]
        nodes.append(node)
        steps = counted_steps(scheme, first, second, rests, node, left)
    return alignment_through(first, second, nodes)


def counted_steps(scheme, first, second, rests, node, left):
    """The moves, in order, behind which what is left of the counts can be had: what is left then, and the node."""
    steps = []
    for added, reached in moves_from(scheme, first, second, node):
        rest = tuple([have - less for have, less in zip(left, added)])
        if rest in rests[reached]:
            steps.append((rest, reached))
    return steps
