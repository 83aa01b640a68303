"""Lists of integers as vectors: without common divisors, independent ones, cones and combinations of them."""

from math import gcd, lcm


def product_of(one, other):
    """The sum of the products of two lists, place by place."""
    return sum([left * right for left, right in zip(one, other)])


def without_divisor(numbers):
    """Integers divided by their greatest common divisor; as they are if all are 0."""
    divisor = 0
    for number in numbers:
        divisor = gcd(divisor, number)
    if divisor == 0:
        return list(numbers)
    return [number // divisor for number in numbers]


def cleared(row, pivot, at):
    """A row with a 0 at a place: a multiple of it, less one of the pivot, which has no 0 there."""
    return without_divisor([number * pivot[at] - other * row[at] for number, other in zip(row, pivot)])


def first_place(numbers):
    """The first place at which there is no 0; None if there is none."""
    for at, number in enumerate(numbers):
        if number != 0:
            return at
    return None


def rank_of(rows):
    """How many of the rows, at most, are linearly independent."""
    rank = 0
    left = [row for row in rows if any(row)]
    while left:
        pivot = left[0]
        at = first_place(pivot)
        smaller = [cleared(row, pivot, at) for row in left[1:]]
        left = [row for row in smaller if any(row)]
        rank += 1
    return rank


def units(length):
    """The lists with one 1 and otherwise 0."""
    return [[int(k == place) for k in range(length)] for place in range(length)]


def rays_where(length, inequalities):
    """The rays, ascending, of the vectors of numbers of at least 0 whose product with each inequality is too."""
    return rays_within(units(length), units(length), inequalities)


def rays_within(rays, known, inequalities):
    """The rays, ascending, of a cone with these rays and known inequalities, if other inequalities hold as well."""
    held = list(known)
    left = list(rays)
    for inequality in inequalities:
        held.append(inequality)
        left = rays_cut(left, inequality, held)
    return sorted(left)


def rays_cut(rays, inequality, held):
    """The rays of a cone with one inequality more; held are all of them, with this one."""
    inside = [ray for ray in rays if product_of(inequality, ray) > 0]
    outside = [ray for ray in rays if product_of(inequality, ray) < 0]
    kept = [ray for ray in rays if product_of(inequality, ray) >= 0]
    # A new ray lies where the way from a ray inside to one outside leaves the smaller cone.
    for one in inside:
        for other in outside:
            crossing = point_between(one, other, inequality)
            if crossing not in kept and is_ray(crossing, held):
                kept.append(crossing)
    return kept


def point_between(inside, outside, inequality):
    """The combination of two rays whose product with the inequality is 0."""
    above = product_of(inequality, inside)
    below = product_of(inequality, outside)
    return without_divisor([above * far - below * near for near, far in zip(inside, outside)])


def is_ray(vector, held):
    """True if so many of the inequalities hold with equality that only multiples of the vector do so."""
    return rank_of([row for row in held if product_of(row, vector) == 0]) >= len(vector) - 1


def is_sum_of_multiples(vectors, wanted):
    """True if a list of numbers of at least 0 is a sum of multiples of the vectors by fractions of at least 0."""
    return multiples_for(vectors, wanted) is not None


def multiples_for(vectors, wanted):
    """Numbers by which the sum of the vectors is a multiple, by more than 0, of a list of numbers of at least 0.

    They are at least 0, and at most as many of them as the list is long are not 0; None if there are no such numbers.
    This is the first phase of the simplex algorithm: each row is an equation, the last number of which is its right
    side. At first the multiples are all 0, and each row lacks its right side; gains tell what the rows lack together,
    and what one more of each vector would take off.
    """
    rows = [[vector[k] for vector in vectors] + [number] for k, number in enumerate(wanted)]
    gains = [sum([row[column] for row in rows]) for column in range(len(vectors) + 1)]
    # What a row is solved for: a vector, by its index, or, with a greater number, what the row lacks.
    solved_for = [len(vectors) + k for k in range(len(rows))]
    while gains[-1] > 0:
        at = first_gain(gains)
        if at is None:
            return None
        place = row_to_solve(rows, solved_for, at)
        pivot = rows[place]
        gains = cleared(gains, pivot, at)
        rows = [row if k == place else cleared(row, pivot, at) for k, row in enumerate(rows)]
        solved_for[place] = at
    return multiples_told(rows, solved_for, len(vectors))


def multiples_told(rows, solved_for, many):
    """The multiples of so many vectors that solved rows tell, all of them times one number, so that each is whole."""
    told = [(row, at) for row, at in zip(rows, solved_for) if at < many]
    scale = 1
    for row, at in told:
        scale = lcm(scale, row[at])
    multiples = [0] * many
    for row, at in told:
        multiples[at] = row[-1] * (scale // row[at])
    return multiples


def weights_below(length, vectors):
    """Numbers by which the sum of the vectors is at most 0 everywhere and less somewhere; None if there are none.

    They are at least 0, and at most as many of them as the vectors are long are not 0.
    """
    # Units fill up to 0 what the sum lacks. The last place wants some of them, so the sum is less than 0 somewhere.
    # It makes the vectors longer by one; as one number at least is that of a unit, not too many are left.
    filling = [unit + [1] for unit in units(length)]
    multiples = multiples_for([vector + [0] for vector in vectors] + filling, [0] * length + [1])
    if multiples is None:
        return None
    return without_divisor(multiples[:len(vectors)])


def first_gain(gains):
    """The index of the first vector of which more would help; None if there is none."""
    # Always to take the first one, here and in row_to_solve, keeps the algorithm from going round in a circle.
    for at in range(len(gains) - 1):
        if gains[at] > 0:
            return at
    return None


def row_to_solve(rows, solved_for, at):
    """The row that sets the limit to the multiples of a vector; of several the one solved for what comes first."""
    best = None
    for k, row in enumerate(rows):
        if row[at] > 0 and (best is None or limits_more(row, rows[best], at, solved_for[k] < solved_for[best])):
            best = k
    return best


def limits_more(row, other, at, comes_first):
    """True if the limit that a row sets is less than that of another one, or the same and the row comes first."""
    ours = row[-1] * other[at]
    theirs = other[-1] * row[at]
    return ours < theirs or (ours == theirs and comes_first)
