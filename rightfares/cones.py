"""Cones: all costs for which given counts, or given examples, are best, told by their rays."""

from rightfares.alignments import sequences_of
from rightfares.counted import minimal_among, minimal_counts, possible_counts
from rightfares.errors import RightfaresError
from rightfares.linear import is_sum_of_multiples, rays_where, without_divisor
from rightfares.schemes import counts_of, size


def inequalities_of(minimal, counts):
    """What makes counts best: for each minimal counts the coefficients of the costs, to be at least 0 together."""
    return [[rival - own for rival, own in zip(rivals, counts)] for rivals in minimal]


def rays_of_counts(scheme, first, second, counts):
    """The rays of the cone of counts that are possible for two sequences."""
    possible = possible_counts(scheme, first, second)
    if counts not in possible:
        raise RightfaresError("not possible")
    return rays_where(size(scheme), inequalities_of(minimal_among(possible), counts))


def inequalities_of_example(scheme, example):
    """What makes an example best, as inequalities_of tells it."""
    first, second = sequences_of(example)
    return inequalities_of(minimal_counts(scheme, first, second), counts_of(scheme, example))


def inequalities_of_examples(scheme, examples):
    """What makes each of some examples best."""
    return [inequality for example in examples for inequality in inequalities_of_example(scheme, example)]


def rays_of_examples(scheme, examples):
    """The rays of the cone of some examples."""
    return rays_where(size(scheme), inequalities_of_examples(scheme, examples))


def inner_costs(rays):
    """The sum of the rays of a cone, without common divisor; None if it is not positive."""
    total = [sum(places) for places in zip(*rays)]
    if not total or min(total) < 1:
        return None
    return without_divisor(total)


def is_combination(rays, costs):
    """True if costs are a combination of the rays with fractions of at least 0."""
    return is_sum_of_multiples(rays, costs)
