"""What the costs that explain examples foretell about two other sequences."""

from rightfares.best import certain_matches, possible_matches
from rightfares.cones import inequalities_of, inequalities_of_examples, inner_costs
from rightfares.counted import minimal_counts
from rightfares.linear import rays_where, rays_within, units
from rightfares.schemes import size


def best_with_costs(scheme, examples, first, second):
    """The pairs of counts that are best for some costs that explain the examples, and of such costs; ascending."""
    given = inequalities_of_examples(scheme, examples)
    rays = rays_where(size(scheme), given)
    known = units(size(scheme)) + given
    # As the costs are positive, counts that are not minimal cost more than minimal ones.
    minimal = minimal_counts(scheme, first, second)
    found = []
    for counts in minimal:
        costs = inner_costs(rays_within(rays, known, inequalities_of(minimal, counts)))
        if costs is not None:
            found.append((counts, costs))
    return found


def best_for_some(scheme, examples, first, second):
    """The counts, ascending, that are best for some costs that explain the examples."""
    return [counts for counts, _ in best_with_costs(scheme, examples, first, second)]


def certain_for_all(scheme, examples, first, second):
    """The pairs of indexes of letters that stand in one column in all that is best for some explaining costs."""
    # What is best for the costs of one of the counts is all told, and all that has these counts is among it.
    told = [certain_matches(scheme, first, second, costs)
            for _, costs in best_with_costs(scheme, examples, first, second)]
    if not told:
        return []
    return [pair for pair in told[0] if all([pair in pairs for pairs in told])]


def possible_for_some(scheme, examples, first, second):
    """The pairs of indexes of letters that stand in one column in something best for some explaining costs."""
    told = [possible_matches(scheme, first, second, costs)
            for _, costs in best_with_costs(scheme, examples, first, second)]
    return sorted({pair for pairs in told for pair in pairs})
