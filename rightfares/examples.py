"""Examples: the costs that explain them, the rivals that refute them, and how many can be explained together."""

from itertools import combinations

from rightfares.alignments import is_alignment, sequences_of
from rightfares.cones import inequalities_of_example, inner_costs, rays_of_examples
from rightfares.counted import first_with, minimal_counts
from rightfares.linear import rays_where, weights_below
from rightfares.schemes import are_positive_costs, cost_of, counts_of, is_plain_integer, size
from rightfares.tables import bound_of, is_right, table_of


def explanation(scheme, examples):
    """The inner costs of the cone of examples, with a table of the least costs for each; None if there are none."""
    costs = inner_costs(rays_of_examples(scheme, examples))
    if costs is None:
        return None
    return (costs, [table_of_example(scheme, example, costs) for example in examples])


def table_of_example(scheme, example, costs):
    """The table of the least costs for the sequences of an example."""
    first, second = sequences_of(example)
    return table_of(scheme, first, second, costs)


def is_explanation(scheme, examples, told):
    """True if a pair of costs and tables explains examples."""
    costs, tables = told
    if not are_positive_costs(scheme, costs) or not isinstance(tables, list) or len(tables) != len(examples):
        return False
    return all([shows_best(scheme, example, costs, table) for example, table in zip(examples, tables)])


def shows_best(scheme, example, costs, table):
    """True if a table shows that nothing costs less than an example."""
    first, second = sequences_of(example)
    return is_right(scheme, first, second, costs, table) and bound_of(table) == cost_of(scheme, example, costs)


def refutation(scheme, examples):
    """Rivals that refute examples, at most as many as the scheme has size; None if there are none."""
    rivals = minimal_rivals(scheme, examples)
    weights = weights_below(size(scheme), [more for _, _, more in rivals])
    if weights is None:
        return None
    found = []
    for (e, counts, _), weight in zip(rivals, weights):
        if weight > 0:
            first, second = sequences_of(examples[e])
            found.append((e, first_with(scheme, first, second, counts), weight))
    return found


def minimal_rivals(scheme, examples):
    """For each example and minimal counts of its sequences: its number, the counts, what they have more than it."""
    found = []
    for e, example in enumerate(examples):
        first, second = sequences_of(example)
        own = counts_of(scheme, example)
        # Other rivals are not needed: minimal counts take their place and have no more.
        for counts in minimal_counts(scheme, first, second):
            found.append((e, counts, more_than(counts, own)))
    return found


def more_than(counts, own):
    """What counts have more than others, place by place."""
    return [rival - less for rival, less in zip(counts, own)]


def is_refutation(scheme, examples, rivals):
    """True if a list of tuples of three refutes examples."""
    if not all([is_rival(examples, rival) for rival in rivals]):
        return False
    balance = balance_of(scheme, examples, rivals)
    return max(balance) <= 0 and min(balance) < 0


def is_rival(examples, thing):
    """True if a tuple of three things is a rival of one of the examples."""
    e, alignment, weight = thing
    if not is_plain_integer(e) or not 0 <= e < len(examples):
        return False
    if not is_alignment(alignment) or sequences_of(alignment) != sequences_of(examples[e]):
        return False
    return is_plain_integer(weight) and weight >= 1


def balance_of(scheme, examples, rivals):
    """The sum of what the rivals have more than their examples, each as often as its weight says."""
    balance = [0] * size(scheme)
    for e, alignment, weight in rivals:
        more = more_than(counts_of(scheme, alignment), counts_of(scheme, examples[e]))
        balance = [have + weight * number for have, number in zip(balance, more)]
    return balance


def largest_explained(scheme, examples):
    """The numbers of as many examples as can be explained together; of several such lists the first one."""
    wanted = [inequalities_of_example(scheme, example) for example in examples]
    many = len(examples)
    found = first_explained(scheme, wanted, many)
    # This comes to an end, as no examples at all are explained by all positive costs.
    while found is None:
        many = many - 1
        found = first_explained(scheme, wanted, many)
    return found


def first_explained(scheme, wanted, many):
    """The first list of so many examples that can be explained together, by what each wants; None if none can be."""
    for numbers in combinations(range(len(wanted)), many):
        inequalities = [inequality for e in numbers for inequality in wanted[e]]
        if inner_costs(rays_where(size(scheme), inequalities)) is not None:
            return list(numbers)
    return None
