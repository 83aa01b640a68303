"""Tables of potentials: the least costs of beginnings, and the check that a table bounds all alignments."""

from rightfares.alignments import DELETION, INSERTION, MATCH
from rightfares.nodes import best_beginnings, moves_from, nodes_of
from rightfares.schemes import cost_of_counts, is_plain_integer


def table_of(scheme, first, second, costs):
    """The table of the least costs of all beginnings."""
    beginnings = best_beginnings(scheme, first, second, costs)
    return [[values_at(beginnings, i, j) for j in range(len(second) + 1)] for i in range(len(first) + 1)]


def values_at(beginnings, i, j):
    """The three values of a table at one place."""
    found = [beginnings.get((i, j, kind)) for kind in [MATCH, DELETION, INSERTION]]
    return [None if best is None else best[0] for best in found]


def is_right(scheme, first, second, costs, table):
    """True if a table is one for these sequences, and right for these costs."""
    if not is_table(first, second, table) or table[0][0][MATCH] != 0:
        return False
    return all([is_kept_from(scheme, first, second, costs, table, node) for node in nodes_of(first, second)])


def is_table(first, second, table):
    """True if anything that is passed has the sizes and the values of a table for these sequences."""
    if not is_list_of(table, len(first) + 1):
        return False
    for row in table:
        if not is_list_of(row, len(second) + 1) or not all([are_values(values) for values in row]):
            return False
    return True


def is_list_of(thing, length):
    """True if anything that is passed is a list of this length."""
    return isinstance(thing, list) and len(thing) == length


def are_values(thing):
    """True if anything that is passed may stand at a place of a table."""
    return is_list_of(thing, 3) and all([is_value(value) for value in thing])


def is_value(thing):
    """True if anything that is passed is None or an integer, and no bool."""
    return thing is None or is_plain_integer(thing)


def value_of(table, node):
    """The value that a table has for a node."""
    i, j, kind = node
    return table[i][j][kind]


def is_kept_from(scheme, first, second, costs, table, node):
    """True if what is wanted of right tables holds for each move from a node."""
    value = value_of(table, node)
    if value is None:
        return True
    for added, reached in moves_from(scheme, first, second, node):
        behind = value_of(table, reached)
        if behind is None or behind > value + cost_of_counts(added, costs):
            return False
    return True


def bound_of(table):
    """The least integer in the last list of a table, or None if it has none."""
    return min([value for value in table[-1][-1] if value is not None], default=None)
