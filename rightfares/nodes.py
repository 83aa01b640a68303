"""Nodes and moves: how alignments are made column by column, and what costs least on the way."""

from rightfares.alignments import DELETION, INSERTION, MATCH
from rightfares.schemes import added_by, cost_of_counts

# A node is a tuple (i, j, kind). The start counts as a match, the kind 0.
START = (0, 0, 0)


def nodes_of(first, second):
    """All nodes for two sequences, each one before those to which its moves lead."""
    kinds = [MATCH, DELETION, INSERTION]
    return [(i, j, kind) for i in range(len(first) + 1) for j in range(len(second) + 1) for kind in kinds]


def moves_from(scheme, first, second, node):
    """The moves from a node, in the order of their kinds: the counts that are added and the node that is reached."""
    i, j, before = node
    moves = []
    if i < len(first) and j < len(second):
        moves.append((added_by(scheme, before, first[i], second[j]), (i + 1, j + 1, MATCH)))
    if i < len(first):
        moves.append((added_by(scheme, before, first[i], "-"), (i + 1, j, DELETION)))
    if j < len(second):
        moves.append((added_by(scheme, before, "-", second[j]), (i, j + 1, INSERTION)))
    return moves


def alignment_through(first, second, nodes):
    """The alignment whose columns lead from the start to these nodes, one by one."""
    tops = [first[i - 1] if kind != INSERTION else "-" for i, _, kind in nodes]
    bottoms = [second[j - 1] if kind != DELETION else "-" for _, j, kind in nodes]
    return ("".join(tops), "".join(bottoms))


def better_of(one, other):
    """Of two pairs of a cost and a number of ways the cheaper one; both ways together if they cost the same."""
    if one is None or other[0] < one[0]:
        return other
    if one[0] < other[0]:
        return one
    return (one[0], one[1] + other[1])


def best_beginnings(scheme, first, second, costs):
    """For each node that has beginnings: their least cost, and how many of them cost just that."""
    found = {START: (0, 1)}
    for node in nodes_of(first, second):
        if node in found:
            least, ways = found[node]
            for added, reached in moves_from(scheme, first, second, node):
                longer = (least + cost_of_counts(added, costs), ways)
                found[reached] = better_of(found.get(reached), longer)
    return found


def best_rests(scheme, first, second, costs):
    """For each node the least cost of what can follow up to the end, and in how many ways it costs just that."""
    found = {}
    for node in reversed(nodes_of(first, second)):
        best = None
        for added, reached in moves_from(scheme, first, second, node):
            least, ways = found[reached]
            best = better_of(best, (least + cost_of_counts(added, costs), ways))
        if best is None:
            # There are no moves from the end: nothing follows, in one way.
            best = (0, 1)
        found[node] = best
    return found
