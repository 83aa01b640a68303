import unittest
from copy import deepcopy
from itertools import product
from math import gcd

from rightfares.cones import inner_costs, is_combination, rays_of_counts, rays_of_examples
from rightfares.errors import RightfaresError
from rightfares.schemes import Scheme
from tests.every import (
    EXAMPLES,
    LONG_PAIRS,
    PAIRS,
    SCHEMES,
    coefficients,
    cost,
    counted,
    grid,
    plain_best,
    plain_combination,
    plain_example_rays,
    plain_minimal,
    plain_possible,
    plain_rays,
    plain_size,
    some_costs,
)

EXAMPLE = Scheme([], True, False)
UNITS = [[0, 0, 1], [0, 1, 0], [1, 0, 0]]

class TestRays(unittest.TestCase):
    def assert_rays(self, rays):
        """What holds of the rays of each cone, whatever it is."""
        self.assertIsInstance(rays, list)
        self.assertEqual(rays, sorted(rays))
        for k, ray in enumerate(rays):
            self.assertIsInstance(ray, list)
            self.assertTrue(all(type(number) is int and number >= 0 for number in ray), ray)
            self.assertEqual(gcd(*ray), 1)
            # No ray is one of the others, nor a combination of them.
            self.assertFalse(is_combination(rays[:k] + rays[k + 1:], ray), rays)
            self.assertTrue(is_combination(rays, ray))


class TestRaysOfCounts(TestRays):
    def test_the_example_of_point_21(self):
        self.assertEqual(rays_of_counts(EXAMPLE, "ab", "ba", [2, 0, 0]), [[0, 0, 1], [0, 1, 0], [1, 0, 1], [1, 1, 0]])

    def test_by_hand(self):
        scheme = Scheme([], False, False)
        self.assertEqual(rays_of_counts(scheme, "a", "b", [1, 0]), [[0, 1], [2, 1]])
        self.assertEqual(rays_of_counts(scheme, "a", "b", [0, 2]), [[1, 0], [2, 1]])
        self.assertEqual(rays_of_counts(scheme, "ab", "ba", [1, 2]), [])
        self.assertEqual(rays_of_counts(scheme, "a", "a", [0, 0]), [[0, 1], [1, 0]])
        self.assertEqual(rays_of_counts(scheme, "a", "a", [0, 2]), [[1, 0]])

    def test_all_choices_of_inequalities(self):
        for kind in SCHEMES:
            for first, second in PAIRS:
                for counts in plain_possible(kind, first, second)[::3]:
                    rays = rays_of_counts(Scheme(*kind), first, second, counts)
                    wanted = plain_rays(plain_size(kind), coefficients(kind, counts, first, second))
                    self.assertEqual(rays, wanted, (kind, first, second, counts))

    def test_cones_are_those_of_the_best(self):
        for kind in SCHEMES:
            for first, second in [("ab", "ba"), ("abdb", "cad"), ("aab", "bba")]:
                possible = plain_possible(kind, first, second)
                for counts in possible[::2] + plain_minimal(possible):
                    rays = rays_of_counts(Scheme(*kind), first, second, counts)
                    self.assert_rays(rays)
                    for costs in grid(plain_size(kind)):
                        best = all(cost(counts, costs) <= cost(others, costs) for others in possible)
                        self.assertEqual(is_combination(rays, costs), best, (counts, costs, rays))

    def test_six_letters(self):
        for kind in SCHEMES:
            for first, second in LONG_PAIRS[:2]:
                possible = plain_possible(kind, first, second)
                for counts in plain_minimal(possible) + possible[::40]:
                    rays = rays_of_counts(Scheme(*kind), first, second, counts)
                    self.assert_rays(rays)
                    self.assertEqual(rays, plain_rays(plain_size(kind), coefficients(kind, counts, first, second)))

    def test_empty_sequences(self):
        for kind in SCHEMES:
            many = plain_size(kind)
            units = [[int(k == place) for k in range(many)] for place in reversed(range(many))]
            self.assertEqual(rays_of_counts(Scheme(*kind), "", "", [0] * many), units)
        self.assertEqual(rays_of_counts(EXAMPLE, "abc", "", [0, 1, 3]), UNITS)
        self.assertEqual(rays_of_counts(EXAMPLE, "", "abcdef", [0, 1, 6]), UNITS)

    def test_equal_sequences(self):
        self.assertEqual(rays_of_counts(EXAMPLE, "abcdef", "abcdef", [0, 0, 0]), UNITS)
        self.assertEqual(rays_of_counts(EXAMPLE, "abcdef", "abcdef", [5, 2, 2]), [])
        self.assertEqual(rays_of_counts(EXAMPLE, "abcdef", "abcdef", [0, 2, 2]), [[1, 0, 0]])

    def test_no_rays_and_one_ray(self):
        # Minimal counts that nothing but costs of 0 make best.
        self.assertEqual(rays_of_counts(EXAMPLE, "abdb", "cad", [1, 2, 3]), [])
        self.assertEqual(rays_of_counts(EXAMPLE, "aa", "aa", [0, 2, 2]), [[1, 0, 0]])
        self.assertEqual(rays_of_counts(Scheme([], True, True), "ab", "ab", [1, 2, 1, 1]), [])

    def test_not_possible(self):
        for first, second, counts in [("ab", "ba", [1, 0, 0]), ("ab", "ba", [0, 0, 0]), ("", "", [0, 0, 1]),
                                      ("a", "", [0, 0, 0]), ("ab", "ba", [10 ** 20, 0, 0]), ("ab", "ba", [0, 2, 3]),
                                      ("abcdef", "fedcba", [5, 0, 0])]:
            with self.assertRaises(RightfaresError) as caught:
                rays_of_counts(EXAMPLE, first, second, counts)
            self.assertEqual(caught.exception.reason, "not possible")

    def test_all_that_is_not_possible(self):
        for kind in SCHEMES:
            possible = plain_possible(kind, "ab", "ca")
            for counts in product(range(4), repeat=plain_size(kind)):
                if list(counts) not in possible:
                    with self.assertRaises(RightfaresError):
                        rays_of_counts(Scheme(*kind), "ab", "ca", list(counts))

    def test_arguments_and_answers(self):
        counts = [2, 0, 0]
        told = rays_of_counts(EXAMPLE, "ab", "ba", counts)
        self.assertEqual(counts, [2, 0, 0])
        kept = deepcopy(told)
        told[0][0] = 7
        told.pop()
        self.assertEqual(rays_of_counts(EXAMPLE, "ab", "ba", counts), kept)


class TestRaysOfExamples(TestRays):
    def test_the_example_of_point_21(self):
        rays = rays_of_examples(EXAMPLE, [("ab-", "-ba"), ("ab", "ba")])
        self.assertEqual(rays, [[1, 0, 1], [1, 1, 0]])
        self.assertEqual(inner_costs(rays), [2, 1, 1])
        self.assertEqual(rays_of_examples(EXAMPLE, [("ab", "ba")]), [[0, 0, 1], [0, 1, 0], [1, 0, 1], [1, 1, 0]])

    def test_all_choices_of_inequalities(self):
        for kind in SCHEMES:
            for examples in EXAMPLES:
                self.assertEqual(rays_of_examples(Scheme(*kind), examples), plain_example_rays(kind, examples))

    def test_cones_are_those_for_which_each_is_best(self):
        for kind in SCHEMES:
            for examples in EXAMPLES:
                rays = rays_of_examples(Scheme(*kind), examples)
                self.assert_rays(rays)
                for costs in grid(plain_size(kind))[::3]:
                    best = all(rows in plain_best(kind, *[row.replace("-", "") for row in rows], costs)[1]
                               for rows in examples)
                    self.assertEqual(is_combination(rays, costs), best, (examples, costs, rays))

    def test_one_example_has_the_cone_of_its_counts(self):
        for kind in SCHEMES:
            for alignment, counts in counted(kind, "ab", "ba"):
                self.assertEqual(rays_of_examples(Scheme(*kind), [alignment]),
                                 rays_of_counts(Scheme(*kind), "ab", "ba", counts))

    def test_six_letters(self):
        examples = [("abcdef-", "-fedcba"), ("aab-bcc", "-abcabc"), ("abcdef", "fedcba"), ("------abc", "abcdef---")]
        for kind in SCHEMES:
            for many in [1, 2, 4]:
                rays = rays_of_examples(Scheme(*kind), examples[:many])
                self.assert_rays(rays)
                self.assertEqual(rays, plain_example_rays(kind, examples[:many]))

    def test_order_of_examples_does_not_matter(self):
        for examples in EXAMPLES:
            self.assertEqual(rays_of_examples(EXAMPLE, examples), rays_of_examples(EXAMPLE, examples[::-1]))
            self.assertEqual(rays_of_examples(EXAMPLE, examples), rays_of_examples(EXAMPLE, examples + examples[:1]))

    def test_nothing_in_common(self):
        scheme = Scheme([], False, False)
        # What is best only if different letters cost at most 1 to 2, and what is best only if they cost more.
        self.assertEqual(rays_of_examples(scheme, [("a", "b"), ("a-", "-b")]), [[2, 1]])
        self.assertEqual(rays_of_examples(scheme, [("aa-", "-aa"), ("a", "b")]), [])
        self.assertEqual(rays_of_examples(scheme, [("a-", "-a")]), [[1, 0]])

    def test_arguments_and_answers(self):
        examples = [("ab-", "-ba"), ("ab", "ba")]
        told = rays_of_examples(EXAMPLE, examples)
        self.assertEqual(examples, [("ab-", "-ba"), ("ab", "ba")])
        told[0][0] = 7
        told.append([])
        self.assertEqual(rays_of_examples(EXAMPLE, examples), [[1, 0, 1], [1, 1, 0]])


class TestInnerCosts(unittest.TestCase):
    def test_sums_without_divisor(self):
        for rays, costs in [
            ([[1, 0, 1], [1, 1, 0]], [2, 1, 1]), (UNITS, [1, 1, 1]), ([[0, 1], [2, 1]], [1, 1]), ([[2, 1]], [2, 1]),
            ([[1, 1, 1, 1]], [1, 1, 1, 1]), ([[0, 1], [2, 3]], [1, 2]), ([[0, 0, 1], [3, 6, 2]], [1, 2, 1]),
            ([[1, 0, 0, 2], [0, 1, 2, 0]], [1, 1, 2, 2]), ([[6, 10, 15]], [6, 10, 15]),
        ]:
            self.assertEqual(inner_costs(rays), costs)

    def test_none(self):
        for rays in [[[1, 0]], [[0, 1]], [[0, 0, 1], [0, 1, 0]], [[1, 1, 0]], [[1, 0, 0, 1], [0, 0, 1, 1]]]:
            self.assertIsNone(inner_costs(rays))

    def test_positive_costs_exactly_if_there_are_inner_ones(self):
        for kind in SCHEMES:
            for examples in EXAMPLES:
                rays = rays_of_examples(Scheme(*kind), examples)
                costs = inner_costs(rays) if rays else None
                positive = [one for one in grid(plain_size(kind)) if min(one) >= 1 and is_combination(rays, one)]
                if costs is None:
                    self.assertEqual(positive, [])
                else:
                    self.assertTrue(all(type(one) is int and one >= 1 for one in costs))
                    self.assertEqual(gcd(*costs), 1)
                    self.assertTrue(is_combination(rays, costs))
                    for rows in examples:
                        first, second = [row.replace("-", "") for row in rows]
                        self.assertIn(rows, plain_best(kind, first, second, costs)[1])

    def test_arguments_and_answers(self):
        rays = [[1, 1, 1]]
        told = inner_costs(rays)
        told[0] = 9
        self.assertEqual(rays, [[1, 1, 1]])
        self.assertEqual(inner_costs(rays), [1, 1, 1])


class TestIsCombination(unittest.TestCase):
    def test_no_rays(self):
        for many in [2, 3, 4]:
            self.assertIs(is_combination([], [0] * many), True)
            for place in range(many):
                self.assertIs(is_combination([], [int(k == place) for k in range(many)]), False)
        self.assertIs(is_combination([], [1000000] * 4), False)

    def test_nothing_is_a_combination_of_each_rays(self):
        for rays in [[[1, 0]], [[2, 1], [0, 1]], UNITS, [[1, 2, 3, 4]]]:
            self.assertIs(is_combination(rays, [0] * len(rays[0])), True)

    def test_one_ray(self):
        for costs, wanted in [([2, 1], True), ([4, 2], True), ([1000000, 500000], True), ([2, 2], False), ([1, 0], False),
                              ([0, 1], False), ([1000000, 500001], False), ([2000000, 999999], False)]:
            self.assertIs(is_combination([[2, 1]], costs), wanted, costs)

    def test_fractions(self):
        self.assertIs(is_combination([[2, 1], [1, 2]], [1, 1]), True)
        self.assertIs(is_combination([[3, 1, 0], [0, 1, 3], [1, 5, 1]], [1, 1, 1]), True)
        self.assertIs(is_combination([[7, 3, 2, 1]], [14, 6, 4, 2]), True)

    def test_borders(self):
        rays = [[1, 0, 1], [1, 1, 0]]
        for costs, wanted in [([1, 0, 1], True), ([1, 1, 0], True), ([2, 1, 1], True), ([3, 1, 2], True),
                              ([5, 0, 5], True), ([2, 1, 2], False), ([1, 0, 0], False), ([3, 1, 1], False),
                              ([1000000, 1, 999999], True), ([1000000, 1, 1000000], False)]:
            self.assertIs(is_combination(rays, costs), wanted, costs)

    def test_all_sets_of_independent_rays(self):
        some = [
            [[1, 0], [1, 3]], [[2, 3]], [[0, 1], [1, 0]], [[5, 1], [3, 2], [1, 1]],
            [[1, 2, 3]], [[1, 0, 1], [0, 1, 1]], [[1, 1, 0], [1, 0, 1], [0, 1, 1]], [[1, 2, 0], [2, 1, 0], [1, 1, 1]],
            [[2, 1, 1], [1, 2, 1], [1, 1, 2], [3, 1, 1]], [[1, 1, 1], [1, 1, 2], [1, 2, 1], [1, 2, 2]],
            [[1, 1, 0, 0], [0, 1, 1, 0], [0, 0, 1, 1], [1, 0, 0, 1]], [[1, 2, 1, 2], [2, 1, 2, 1], [1, 1, 1, 1]],
            [[0, 0, 1, 1], [0, 1, 0, 1], [1, 0, 0, 1], [1, 1, 1, 0], [1, 1, 1, 1]],
            [[3, 1, 0, 0], [0, 3, 1, 0], [0, 0, 3, 1], [1, 0, 0, 3], [1, 1, 1, 1], [2, 1, 1, 2]],
        ]
        for rays in some:
            for costs in product(range(5 if len(rays[0]) < 4 else 4), repeat=len(rays[0])):
                self.assertIs(is_combination(rays, list(costs)), plain_combination(rays, list(costs)), (rays, costs))

    def test_great_costs(self):
        rays = [[1, 0, 0, 2], [0, 3, 1, 0], [5, 0, 1, 1], [0, 0, 7, 4]]
        for weights in [(999983, 1, 0, 3), (1, 1, 1, 1), (0, 99991, 0, 1), (17, 0, 31, 142857)]:
            costs = [sum(weight * ray[k] for weight, ray in zip(weights, rays)) for k in range(4)]
            self.assertIs(is_combination(rays, costs), True)
            self.assertIs(is_combination(rays[1:], costs), weights[0] == 0)
            for place in range(4):
                near = [number + int(k == place) for k, number in enumerate(costs)]
                self.assertIs(is_combination(rays, near), plain_combination(rays, near), near)

    def test_many_rays(self):
        rays = [[1, k, k * k, 20 * k] for k in range(1, 12)]
        for costs in [[2, 10, 52, 200], [1, 1, 1, 20], [1, 11, 121, 220], [1, 12, 144, 240], [2, 12, 71, 240],
                      [2, 12, 122, 240], [2, 12, 123, 240], [3, 18, 200, 361]]:
            self.assertIs(is_combination(rays, costs), plain_combination(rays, costs), costs)

    def test_arguments_stay_as_they_are(self):
        rays, costs = [[1, 0, 1], [1, 1, 0]], [2, 1, 1]
        is_combination(rays, costs)
        self.assertEqual((rays, costs), ([[1, 0, 1], [1, 1, 0]], [2, 1, 1]))


if __name__ == "__main__":
    unittest.main()
