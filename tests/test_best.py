import unittest
from copy import deepcopy

from rightfares.alignments import comes_before, number_of_alignments
from rightfares.best import best_at, certain_matches, count_best, index_of, least_cost, possible_matches
from rightfares.errors import RightfaresError
from rightfares.schemes import Scheme, cost_of
from tests.every import LONG_PAIRS, PAIRS, SCHEMES, every_alignment, matches, plain_best, plain_size, some_costs

EXAMPLE = Scheme([], True, False)


def cases():
    """Each kind of scheme with each pair of short sequences and all kinds of costs, and what is best for them."""
    for kind in SCHEMES:
        scheme = Scheme(*kind)
        for first, second in PAIRS:
            for costs in some_costs(plain_size(kind)):
                least, best = plain_best(kind, first, second, costs)
                yield scheme, first, second, costs, least, best


def long_cases():
    """The same of sequences of 6 letters, with fewer costs."""
    for kind in [([], False, False), ([], True, False), (["ab"], False, True), ([], True, True)]:
        for first, second in LONG_PAIRS:
            for costs in some_costs(plain_size(kind))[:3]:
                least, best = plain_best(kind, first, second, costs)
                yield Scheme(*kind), first, second, costs, least, best


class TestExample(unittest.TestCase):
    def test_the_example_of_point_21(self):
        costs = [2, 1, 1]
        best = [("ab", "ba"), ("ab-", "-ba"), ("-ab", "ba-")]
        self.assertEqual(least_cost(EXAMPLE, "ab", "ba", costs), 4)
        self.assertEqual(count_best(EXAMPLE, "ab", "ba", costs), 3)
        self.assertEqual([best_at(EXAMPLE, "ab", "ba", costs, k) for k in range(3)], best)
        self.assertEqual([index_of(EXAMPLE, alignment, costs) for alignment in best], [0, 1, 2])
        self.assertIsNone(index_of(EXAMPLE, ("a-b", "-ba"), costs))
        self.assertEqual(certain_matches(EXAMPLE, "ab", "ba", costs), [])
        self.assertEqual(possible_matches(EXAMPLE, "ab", "ba", costs), [(0, 0), (0, 1), (1, 0), (1, 1)])


class TestLeastCost(unittest.TestCase):
    def test_no_alignment_costs_less(self):
        for scheme, first, second, costs, least, _ in cases():
            told = least_cost(scheme, first, second, costs)
            self.assertEqual(told, least, (first, second, costs))
            self.assertIs(type(told), int)

    def test_six_letters(self):
        for scheme, first, second, costs, least, _ in long_cases():
            self.assertEqual(least_cost(scheme, first, second, costs), least, (first, second, costs))

    def test_a_gap_goes_on_only_in_its_kind(self):
        # A gap costs 5: two deletions make one gap; a deletion and an insertion make two.
        scheme = Scheme([], True, True)
        self.assertEqual(least_cost(scheme, "ab", "", [9, 5, 1, 1]), 7)
        self.assertEqual(least_cost(scheme, "", "ab", [9, 5, 1, 1]), 7)
        self.assertEqual(least_cost(scheme, "a", "b", [99, 5, 1, 1]), 12)

    def test_each_cost_has_its_place(self):
        self.assertEqual(least_cost(Scheme(["ab"], False, True), "a", "b", [7, 1, 9, 9]), 7)
        self.assertEqual(least_cost(Scheme(["ab"], False, True), "a", "c", [7, 1, 9, 9]), 1)
        self.assertEqual(least_cost(Scheme([], False, True), "a", "", [7, 2, 3]), 2)
        self.assertEqual(least_cost(Scheme([], False, True), "", "a", [7, 2, 3]), 3)

    def test_greatest_costs(self):
        self.assertEqual(least_cost(Scheme([], True, True), "abcdef", "", [1000000] * 4), 7000000)
        self.assertEqual(least_cost(Scheme([], False, False), "abcdef", "uvwxyz", [1000000, 1000000]), 6000000)


class TestCountBest(unittest.TestCase):
    def test_as_many_as_there_are(self):
        for scheme, first, second, costs, _, best in cases():
            told = count_best(scheme, first, second, costs)
            self.assertEqual(told, len(best), (first, second, costs))
            self.assertIs(type(told), int)

    def test_six_letters(self):
        for scheme, first, second, costs, _, best in long_cases():
            self.assertEqual(count_best(scheme, first, second, costs), len(best), (first, second, costs))

    def test_all_are_best_if_nothing_costs(self):
        for kind in SCHEMES:
            costs = [0] * plain_size(kind)
            self.assertEqual(count_best(Scheme(*kind), "abcdef", "uvwxyz", costs), 8989)
            self.assertEqual(count_best(Scheme(*kind), "", "", costs), 1)
            self.assertEqual(least_cost(Scheme(*kind), "abcdef", "uvwxyz", costs), 0)

    def test_equal_sequences_have_one(self):
        for kind in SCHEMES:
            self.assertEqual(count_best(Scheme(*kind), "abcabc", "abcabc", [1] * plain_size(kind)), 1)

    def test_somewhat_longer_sequences(self):
        self.assertEqual(count_best(EXAMPLE, "abcdefgh", "abcdefgh", [0, 0, 0]),
                         number_of_alignments("abcdefgh", "abcdefgh"))


class TestBestAt(unittest.TestCase):
    def assert_no_such(self, scheme, first, second, costs, index):
        with self.assertRaises(RightfaresError) as caught:
            best_at(scheme, first, second, costs, index)
        self.assertEqual(caught.exception.reason, "no such alignment")

    def test_all_of_them_in_their_order(self):
        for scheme, first, second, costs, _, best in cases():
            chosen = range(len(best)) if len(best) < 30 else [0, 1, len(best) // 2, len(best) - 2, len(best) - 1]
            for index in chosen:
                told = best_at(scheme, first, second, costs, index)
                self.assertEqual(told, best[index], (costs, index))
                self.assertIsInstance(told, tuple)

    def test_six_letters(self):
        for scheme, first, second, costs, _, best in long_cases():
            for index in [0, len(best) // 3, len(best) - 1]:
                self.assertEqual(best_at(scheme, first, second, costs, index), best[index], (costs, index))

    def test_each_one_comes_before_the_next(self):
        told = [best_at(EXAMPLE, "aabb", "abab", [0, 0, 0], index) for index in range(321)]
        self.assertEqual(told, every_alignment("aabb", "abab"))
        for one, two in zip(told, told[1:]):
            self.assertTrue(comes_before(one, two))

    def test_greater_numbers(self):
        for scheme, first, second, costs, _, best in cases():
            for index in [len(best), len(best) + 1, 10 ** 20]:
                self.assert_no_such(scheme, first, second, costs, index)

    def test_greater_numbers_for_six_letters(self):
        self.assertEqual(best_at(EXAMPLE, "abcdef", "uvwxyz", [0, 0, 0], 8988), ("------abcdef", "uvwxyz------"))
        self.assert_no_such(EXAMPLE, "abcdef", "uvwxyz", [0, 0, 0], 8989)
        self.assertEqual(best_at(EXAMPLE, "", "", [1, 1, 1], 0), ("", ""))
        self.assert_no_such(EXAMPLE, "", "", [1, 1, 1], 1)


class TestIndexOf(unittest.TestCase):
    def test_each_alignment(self):
        for scheme, first, second, costs, _, best in cases():
            everything = every_alignment(first, second)
            for alignment in everything if len(everything) < 30 else everything[::25] + best[:3]:
                told = index_of(scheme, alignment, costs)
                if alignment in best:
                    self.assertEqual(told, best.index(alignment), (alignment, costs))
                    self.assertIs(type(told), int)
                else:
                    self.assertIsNone(told, (alignment, costs))

    def test_six_letters(self):
        for scheme, first, second, costs, least, best in long_cases():
            for index in [0, len(best) // 2, len(best) - 1]:
                self.assertEqual(index_of(scheme, best[index], costs), index)
            for alignment in every_alignment(first, second)[::1000]:
                self.assertEqual(index_of(scheme, alignment, costs) is None, cost_of(scheme, alignment, costs) > least)

    def test_goes_back_from_best_at(self):
        for index in [0, 1, 100, 4000, 8988]:
            alignment = best_at(EXAMPLE, "abcdef", "fedcba", [0, 0, 0], index)
            self.assertEqual(index_of(EXAMPLE, alignment, [0, 0, 0]), index)


class TestMatches(unittest.TestCase):
    def assert_pairs(self, told, wanted):
        self.assertEqual(told, sorted(wanted))
        self.assertIsInstance(told, list)
        for pair in told:
            self.assertIsInstance(pair, tuple)

    def test_certain_and_possible(self):
        for scheme, first, second, costs, _, best in cases():
            told = [set(matches(alignment)) for alignment in best]
            self.assert_pairs(certain_matches(scheme, first, second, costs), set.intersection(*told))
            self.assert_pairs(possible_matches(scheme, first, second, costs), set.union(*told))

    def test_six_letters(self):
        for scheme, first, second, costs, _, best in long_cases():
            told = [set(matches(alignment)) for alignment in best]
            self.assert_pairs(certain_matches(scheme, first, second, costs), set.intersection(*told))
            self.assert_pairs(possible_matches(scheme, first, second, costs), set.union(*told))

    def test_equal_sequences(self):
        wanted = [(k, k) for k in range(6)]
        self.assertEqual(certain_matches(EXAMPLE, "abcdef", "abcdef", [1, 1, 1]), wanted)
        self.assertEqual(possible_matches(EXAMPLE, "abcdef", "abcdef", [1, 1, 1]), wanted)

    def test_empty_sequences(self):
        for first, second in [("", ""), ("abc", ""), ("", "abc")]:
            self.assertEqual(certain_matches(EXAMPLE, first, second, [0, 0, 0]), [])
            self.assertEqual(possible_matches(EXAMPLE, first, second, [0, 0, 0]), [])

    def test_different_letters_stand_together_too(self):
        self.assertEqual(certain_matches(EXAMPLE, "a", "b", [1, 1, 1]), [(0, 0)])
        self.assertEqual(certain_matches(EXAMPLE, "a", "b", [5, 1, 1]), [])
        self.assertEqual(possible_matches(EXAMPLE, "a", "b", [4, 1, 1]), [(0, 0)])

    def test_nothing_costs(self):
        self.assertEqual(certain_matches(EXAMPLE, "ab", "cd", [0, 0, 0]), [])
        self.assertEqual(possible_matches(EXAMPLE, "ab", "cd", [0, 0, 0]), [(0, 0), (0, 1), (1, 0), (1, 1)])


class TestArguments(unittest.TestCase):
    def test_stay_as_they_are(self):
        scheme, costs = Scheme(["ab", "cd"], True, False), [3, 5, 2, 1]
        alignment = ("ab-c", "bac-")
        before = deepcopy(costs)
        least_cost(scheme, "abc", "bac", costs)
        count_best(scheme, "abc", "bac", costs)
        best_at(scheme, "abc", "bac", costs, 0)
        index_of(scheme, alignment, costs)
        certain_matches(scheme, "abc", "bac", costs)
        possible_matches(scheme, "abc", "bac", costs)
        self.assertEqual(costs, before)
        self.assertEqual((scheme.groups, scheme.gaps, scheme.sides), (["ab", "cd"], True, False))

    def test_answers_belong_to_the_caller(self):
        for function in [certain_matches, possible_matches]:
            told = function(EXAMPLE, "ab", "ab", [1, 1, 1])
            told.append((7, 7))
            told[0] = None
            self.assertEqual(function(EXAMPLE, "ab", "ab", [1, 1, 1]), [(0, 0), (1, 1)])


if __name__ == "__main__":
    unittest.main()
