"""Schemes: what is counted of an alignment, and what it costs."""

from rightfares.alignments import DELETION, INSERTION, MATCH, has_only_letters, kind_of
from rightfares.errors import RightfaresError
from rightfares.linear import product_of

MOST_GROUPS = 4
MOST_COST = 1000000


class Scheme:
    """What is counted: matches by groups of near letters, gaps, deletions and insertions by sides."""

    def __init__(self, groups, gaps, sides):
        if not may_be_scheme(groups, gaps, sides):
            raise RightfaresError("no scheme")
        self.groups = list(groups)
        self.gaps = gaps
        self.sides = sides


def may_be_scheme(groups, gaps, sides):
    """True if any three things that are passed make a scheme."""
    if not are_groups(groups) or not isinstance(gaps, bool) or not isinstance(sides, bool):
        return False
    # With all three there would be five counts.
    return not groups or not gaps or not sides


def are_groups(thing):
    """True if anything that is passed is a list of groups for a scheme."""
    if not isinstance(thing, list) or len(thing) > MOST_GROUPS:
        return False
    if not all(is_group(group) for group in thing):
        return False
    letters = "".join(thing)
    return len(set(letters)) == len(letters)


def is_group(thing):
    """True if anything that is passed is a string of at least two letters."""
    return isinstance(thing, str) and len(thing) >= 2 and has_only_letters(thing)


def size(scheme):
    """How many counts there are by a scheme."""
    many = 2
    if scheme.groups:
        many += 1
    if scheme.gaps:
        many += 1
    if scheme.sides:
        many += 1
    return many


def are_near(scheme, one, other):
    """True if two letters are different and in one group."""
    return one != other and any(one in group and other in group for group in scheme.groups)


def counts_of(scheme, alignment):
    """The counts of an alignment."""
    first_row, second_row = alignment
    counts = [0] * size(scheme)
    # What stands before the first column counts as a match: so a gap begins with it, too.
    before = MATCH
    for top, bottom in zip(first_row, second_row):
        added = added_by(scheme, before, top, bottom)
        counts = [have + more for have, more in zip(counts, added)]
        before = kind_of(top, bottom)
    return counts


def added_by(scheme, before, top, bottom):
    """The counts that a column adds behind a column of the kind before."""
    kind = kind_of(top, bottom)
    differs = kind == MATCH and top != bottom
    near = differs and are_near(scheme, top, bottom)
    counts = []
    if scheme.groups:
        counts.append(int(near))
    counts.append(int(differs and not near))
    if scheme.gaps:
        counts.append(int(kind != MATCH and kind != before))
    if scheme.sides:
        return counts + [int(kind == DELETION), int(kind == INSERTION)]
    return counts + [int(kind != MATCH)]


def cost_of_counts(counts, costs):
    """The cost of counts: the sum of the products, place by place."""
    return product_of(counts, costs)


def cost_of(scheme, alignment, costs):
    """The cost of an alignment."""
    return cost_of_counts(counts_of(scheme, alignment), costs)


def is_plain_integer(thing):
    """True if anything that is passed is an integer, and no bool."""
    return isinstance(thing, int) and not isinstance(thing, bool)


def are_positive_costs(scheme, thing):
    """True if anything that is passed is a list of positive costs of a scheme."""
    if not isinstance(thing, list) or len(thing) != size(scheme):
        return False
    return all([is_plain_integer(one) and 1 <= one <= MOST_COST for one in thing])
