"""Plain enumerations to hold the program against; they use nothing of the program."""

from copy import deepcopy
from fractions import Fraction
from itertools import combinations, product
from math import gcd, lcm
from random import Random

# Each kind of scheme: groups, gaps, sides; of size 2, 3 and 4.
SCHEMES = [
    ([], False, False), ([], True, False), ([], False, True), ([], True, True),
    (["ab"], False, False), (["ab"], True, False), (["ab"], False, True),
    (["ac", "bd"], True, False), (["abc"], False, True),
]

# Pairs of sequences: empty ones, equal ones, others; without and with as many letters as there may be.
PAIRS = [
    ("", ""), ("", "a"), ("ba", ""), ("a", "a"), ("a", "b"), ("ab", "ba"), ("ab", "ab"), ("aa", "aaa"), ("abc", "cab"),
    ("abdb", "cad"), ("cab", "abcd"), ("aab", "bba"),
]
LONG_PAIRS = [("abcdef", "fedcba"), ("aabbcc", "abcabc"), ("dddddd", "dddddd"), ("abcabd", "")]

# All sequences of at most two letters over a, b, c, and a few longer ones.
SHORT = ["".join(letters) for length in range(3) for letters in product("abc", repeat=length)]
LONGER = ["abc", "cab", "aab", "bba"]

KINDS = "MDI"

# Lists of one to four examples; some have no positive costs in common.
EXAMPLES = [
    [("", "")], [("a", "-")], [("ab", "ba")], [("ab-", "-ba")], [("a-b", "-ba")], [("ab", "ba"), ("ab-", "-ba")],
    [("ab", "ab"), ("a", "b")], [("abc-", "-cab"), ("ab", "ba"), ("a-", "-b")], [("cab-", "-abd"), ("aab", "bba")],
    [("a", "b"), ("a", "c"), ("c-", "-a"), ("ab", "-b")], [("ab-", "-ba")] * 4, [("abdb", "ca-d"), ("abc", "cab")],
]


def every_alignment(first, second):
    """All alignments of two sequences, in their order: match before deletion before insertion."""
    if not first and not second:
        return [("", "")]
    found = []
    if first and second:
        found += [(first[0] + one, second[0] + two) for one, two in every_alignment(first[1:], second[1:])]
    if first:
        found += [(first[0] + one, "-" + two) for one, two in every_alignment(first[1:], second)]
    if second:
        found += [("-" + one, second[0] + two) for one, two in every_alignment(first, second[1:])]
    return found


def plain_counts(groups, gaps, sides, alignment):
    """The counts of an alignment, told from its rows as the table of point 6 says."""
    columns = list(zip(*alignment))
    words = ["D" if b == "-" else "I" if a == "-" else "M" for a, b in columns]
    unlike = [(a, b) for a, b in columns if "-" not in (a, b) and a != b]
    near = [(a, b) for a, b in unlike if [group for group in groups if a in group and b in group]]
    runs = "".join(words)
    starts = len([k for k in range(len(runs)) if runs[k] != "M" and (k == 0 or runs[k] != runs[k - 1])])
    counts = [len(near)] if groups else []
    counts.append(len(unlike) - len(near))
    if gaps:
        counts.append(starts)
    if sides:
        return counts + [words.count("D"), words.count("I")]
    return counts + [words.count("D") + words.count("I")]


def cost(counts, costs):
    """The cost of counts."""
    return sum(many * one for many, one in zip(counts, costs))


TOLD = {}


def counted(kind, first, second):
    """All alignments of two sequences, in their order, each with its counts; worked out once for all tests."""
    key = (repr(kind), first, second)
    if key not in TOLD:
        TOLD[key] = [(alignment, plain_counts(*kind, alignment)) for alignment in every_alignment(first, second)]
    return TOLD[key]


def plain_size(kind):
    """The size of a scheme."""
    return len(plain_counts(*kind, ("", "")))


def plain_best(kind, first, second, costs):
    """The least cost, and the list of the best alignments in their order."""
    told = [(alignment, cost(counts, costs)) for alignment, counts in counted(kind, first, second)]
    least = min(one for _, one in told)
    return least, [alignment for alignment, one in told if one == least]


def matches(alignment):
    """The pairs of the indexes of letters that stand in one column."""
    first_row, second_row = alignment
    return [(k - first_row[:k].count("-"), k - second_row[:k].count("-"))
            for k in range(len(first_row)) if "-" not in (first_row[k], second_row[k])]


def some_costs(many):
    """Costs of a size: zeros among them, all of them 0, equal ones, small ones, greatest ones."""
    told = [[0, 1, 0, 1], [2, 1, 1, 3], [3, 2, 1, 0], [0, 0, 0, 0], [1000000] * 4, [1, 1, 1, 1], [0, 5, 2, 1],
            [7, 0, 3, 4], [1000000, 1, 0, 1000000], [1, 3, 1, 2]]
    return [costs[:many] for costs in told]


def plain_possible(kind, first, second):
    """The possible counts, ascending."""
    return [list(counts) for counts in sorted({tuple(counts) for _, counts in counted(kind, first, second)})]


def plain_minimal(possible):
    """The minimal ones of possible counts, as point 8 says."""
    return [counts for counts in possible
            if not [other for other in possible if other != counts and all(a <= b for a, b in zip(other, counts))]]


def solutions(rows, length):
    """A basis, of fractions, of the vectors of this length whose product with each row is 0."""
    rows = [[Fraction(number) for number in row] for row in rows]
    leading = []
    for at in range(length):
        usable = [row for row in rows[len(leading):] if row[at] != 0]
        if usable:
            rows.remove(usable[0])
            pivot = [number / usable[0][at] for number in usable[0]]
            rows = [[a - b * row[at] for a, b in zip(row, pivot)] for row in rows]
            rows.insert(len(leading), pivot)
            leading.append(at)
    basis = []
    for free in [at for at in range(length) if at not in leading]:
        vector = [Fraction(int(at == free)) for at in range(length)]
        for row, at in zip(rows, leading):
            vector[at] = -row[free]
        basis.append(vector)
    return basis


def whole(vector):
    """The multiple of a vector of fractions that is of integers without a common divisor, with its signs."""
    scale = lcm(*[number.denominator for number in vector])
    numbers = [int(number * scale) for number in vector]
    return [number // gcd(*numbers) for number in numbers]


def plain_rays(many, inequalities):
    """The rays of the costs of at least 0 for which the inequalities hold, as point 12 says, by all choices."""
    rows = [[int(k == place) for k in range(many)] for place in range(many)]
    rows += [row for k, row in enumerate(inequalities) if any(row) and row not in inequalities[:k]]
    found = set()
    for chosen in combinations(rows, many - 1):
        basis = solutions(list(chosen), many)
        if len(basis) == 1:
            for sign in [1, -1]:
                ray = whole([sign * number for number in basis[0]])
                if all(cost(row, ray) >= 0 for row in rows):
                    found.add(tuple(ray))
    return [list(ray) for ray in sorted(found)]


def plain_combination(rays, costs):
    """True if costs are a combination of rays: then they are one of independent rays, of which all sets are tried."""
    if not any(costs):
        return True
    for many in range(1, len(costs) + 1):
        for chosen in combinations(rays, many):
            # With independent rays there is one solution at most, up to a factor, that has the costs in it.
            rows = [[ray[k] for ray in chosen] + [-costs[k]] for k in range(len(costs))]
            basis = solutions(rows, many + 1)
            if len(basis) == 1 and basis[0][-1] != 0 and all(n / basis[0][-1] >= 0 for n in basis[0]):
                return True
    return False


def kind_of(top, bottom):
    return "D" if bottom == "-" else "I" if top == "-" else "M"


def plain_table(kind, first, second, costs):
    """The least costs of all beginnings, by cutting all alignments everywhere."""
    table = [[[None] * 3 for _ in range(len(second) + 1)] for _ in range(len(first) + 1)]
    table[0][0][0] = 0
    for (top, bottom), _ in counted(kind, first, second):
        for end in range(1, len(top) + 1):
            begun = (top[:end], bottom[:end])
            own = cost(plain_counts(*kind, begun), costs)
            i, j = [len(row.replace("-", "")) for row in begun]
            at = KINDS.index(kind_of(top[end - 1], bottom[end - 1]))
            have = table[i][j][at]
            table[i][j][at] = own if have is None else min(own, have)
    return table


def plain_move(kind, before, top, bottom, costs):
    """What a column costs behind one of the kind before: what two columns cost together, less the first one."""
    column = {"M": ("z", "z"), "D": ("z", "-"), "I": ("-", "z")}[before]
    both = (column[0] + top, column[1] + bottom)
    return cost(plain_counts(*kind, both), costs) - cost(plain_counts(*kind, column), costs)


def plain_is_right(kind, first, second, costs, table):
    """What point 10 says, move by move, of a table that has the right sizes and values."""
    right = table[0][0][0] == 0
    for i in range(len(first) + 1):
        for j in range(len(second) + 1):
            for before in KINDS:
                moves = [(1, 1, first[i], second[j])] if i < len(first) and j < len(second) else []
                moves += [(1, 0, first[i], "-")] if i < len(first) else []
                moves += [(0, 1, "-", second[j])] if j < len(second) else []
                value = table[i][j][KINDS.index(before)]
                for more_i, more_j, top, bottom in moves if value is not None else []:
                    behind = table[i + more_i][j + more_j][KINDS.index(kind_of(top, bottom))]
                    right = right and behind is not None
                    right = right and behind <= value + plain_move(kind, before, top, bottom, costs)
    return right


def places(table):
    """All places of a table."""
    return [(i, j, k) for i, row in enumerate(table) for j, values in enumerate(row) for k in range(len(values))]


def changed(table, place, value):
    """A copy of a table with another value at a place."""
    i, j, k = place
    other = deepcopy(table)
    other[i][j][k] = value
    return other


def coefficients(kind, alignment_counts, first, second):
    """For each minimal counts of the sequences what they have more than these counts."""
    minimal = plain_minimal(plain_possible(kind, first, second))
    return [[rival - own for rival, own in zip(rivals, alignment_counts)] for rivals in minimal]


def letters_of(rows):
    """The two sequences of an alignment."""
    return [row.replace("-", "") for row in rows]


def plain_counts_of(kind, rows):
    """The counts of an alignment, which is one of all alignments of its sequences."""
    [counts] = [own for alignment, own in counted(kind, *letters_of(rows)) if alignment == rows]
    return counts


def plain_inequalities(kind, examples):
    """What makes each of some examples best: as coefficients tells it."""
    return [row for rows in examples for row in coefficients(kind, plain_counts_of(kind, rows), *letters_of(rows))]


def plain_example_rays(kind, examples):
    """The rays of the cone of examples, by all choices of inequalities."""
    return plain_rays(plain_size(kind), plain_inequalities(kind, examples))


def plain_inner(rays):
    """The inner costs of a cone, as point 13 says; None if there are none."""
    total = [sum(places) for places in zip(*rays)]
    return [number // gcd(*total) for number in total] if total and all(total) else None


def plain_costs(kind, examples):
    """The costs of the explanation of examples, by all choices of inequalities; None if there are none."""
    return plain_inner(plain_example_rays(kind, examples))


def plain_balance(kind, examples, rivals):
    """The balance of rivals, as point 15 says."""
    total = [0] * plain_size(kind)
    for e, alignment, weight in rivals:
        for k, (more, less) in enumerate(zip(plain_counts(*kind, alignment), plain_counts(*kind, examples[e]))):
            total[k] += weight * (more - less)
    return total


def plain_refutes(kind, examples, rivals):
    """True if the balance of rivals, which are such, is at most 0 everywhere and less somewhere."""
    balance = plain_balance(kind, examples, rivals)
    return all(number <= 0 for number in balance) and any(balance)


def drawn_alignment(draw, kind, most):
    """An alignment drawn by a random source: any one, or one that is best for some costs."""
    first, second = ["".join(draw.choice("abc") for _ in range(draw.randint(0, most))) for _ in range(2)]
    if draw.random() < 0.3:
        return draw.choice(every_alignment(first, second))
    return draw.choice(plain_best(kind, first, second, [draw.randint(1, 4) for _ in range(plain_size(kind))])[1])


def drawn_examples(seed, kind, many, most):
    """So many lists of 1 to 4 examples, of sequences of at most so many letters; the same ones each time."""
    draw = Random(seed)
    return [[drawn_alignment(draw, kind, most) for _ in range(draw.randint(1, 4))] for _ in range(many)]


def grid(many):
    """All costs of a size with small numbers."""
    return [list(costs) for costs in product(range(6 - many), repeat=many)] + some_costs(many)
