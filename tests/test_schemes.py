import unittest
from copy import deepcopy

from rightfares.errors import RightfaresError
from rightfares.schemes import Scheme, cost_of, counts_of, size
from tests.every import LONGER, SCHEMES, SHORT, every_alignment, plain_counts


class TestScheme(unittest.TestCase):
    def test_fields(self):
        for groups, gaps, sides in SCHEMES + [(["ab", "cd", "ef", "gh"], True, False),
                                              (["abcdefghijklmnopqrstuvwxyz"], False, True)]:
            scheme = Scheme(groups, gaps, sides)
            self.assertEqual(scheme.groups, groups)
            self.assertIs(scheme.gaps, gaps)
            self.assertIs(scheme.sides, sides)

    def test_groups_are_a_copy(self):
        groups = ["ab", "cd"]
        scheme = Scheme(groups, True, False)
        self.assertIsNot(scheme.groups, groups)
        self.assertEqual(groups, ["ab", "cd"])
        groups.append("a")
        groups[0] = "xy"
        self.assertEqual(scheme.groups, ["ab", "cd"])
        self.assertEqual(size(scheme), 4)
        self.assertEqual(counts_of(scheme, ("abx", "bay")), [2, 1, 0, 0])

    def test_emptied_groups_change_nothing(self):
        groups = ["ab"]
        scheme = Scheme(groups, False, True)
        groups.clear()
        self.assertEqual(size(scheme), 4)
        self.assertEqual(counts_of(scheme, ("a", "b")), [1, 0, 0, 0])

    def test_later_groups_change_nothing(self):
        groups = []
        scheme = Scheme(groups, True, True)
        groups.append("ab")
        self.assertEqual(scheme.groups, [])
        self.assertEqual(size(scheme), 4)
        self.assertEqual(counts_of(scheme, ("a", "b")), [1, 0, 0, 0])

    def assert_no_scheme(self, groups, gaps=False, sides=False):
        with self.assertRaises(RightfaresError, msg=repr((groups, gaps, sides))) as caught:
            Scheme(groups, gaps, sides)
        self.assertEqual(caught.exception.reason, "no scheme")

    def test_groups_that_are_no_list(self):
        for groups in [None, True, 0, 3, "", "ab", b"ab", ("ab",), (), {"ab": 1}, {}, {"ab"}, set(), 1.5, object()]:
            self.assert_no_scheme(groups)

    def test_groups_that_hold_no_strings_of_letters(self):
        for group in [None, True, 7, b"ab", ["a", "b"], ("a", "b"), {"a": 1, "b": 2}, {"a", "b"}, "AB", "a-", "--",
                      "a b", "ab\n", "a1", "\u00e9\u00e8", "a\u0430", "\ud800a", "aB"]:
            self.assert_no_scheme([group])
            self.assert_no_scheme(["xy", group])
            self.assert_no_scheme([group, "xy"])

    def test_groups_of_less_than_two_letters(self):
        for groups in [["a"], [""], ["ab", "c"], ["c", "ab"], ["ab", "", "cd"]]:
            self.assert_no_scheme(groups)

    def test_four_groups_and_five(self):
        self.assertEqual(len(Scheme(["ab", "cd", "ef", "gh"], False, False).groups), 4)
        self.assert_no_scheme(["ab", "cd", "ef", "gh", "ij"])

    def test_a_letter_twice(self):
        for groups in [["aa"], ["aba"], ["ab", "ca"], ["ab", "ab"], ["ab", "cd", "ef", "gb"], ["xy", "abb"]]:
            self.assert_no_scheme(groups)

    def test_gaps_and_sides_that_are_no_bools(self):
        for thing in [None, 0, 1, "", "True", [], [True], (), 1.0]:
            self.assert_no_scheme([], thing, False)
            self.assert_no_scheme([], False, thing)
            self.assert_no_scheme(["ab"], thing, False)
            self.assert_no_scheme([], thing, thing)

    def test_not_all_three_together(self):
        self.assert_no_scheme(["ab"], True, True)
        self.assert_no_scheme(["ab", "cd"], True, True)
        # Without all three there are the two counts that the point calls the fewest.
        self.assertEqual(size(Scheme([], False, False)), 2)

    def test_arguments_stay_as_they_are(self):
        for groups in [["ab", "cd"], ["aa"], ["ab", "cd", "ef", "gh", "ij"], [["a", "b"]]]:
            before = deepcopy(groups)
            try:
                Scheme(groups, True, False)
            except RightfaresError:
                pass
            self.assertEqual(groups, before)


class TestSize(unittest.TestCase):
    def test_two_three_and_four(self):
        for groups, gaps, sides, many in [
            ([], False, False, 2), ([], True, False, 3), ([], False, True, 3), (["ab"], False, False, 3),
            ([], True, True, 4), (["ab"], True, False, 4), (["ab", "cd"], False, True, 4),
        ]:
            scheme = Scheme(groups, gaps, sides)
            self.assertEqual(size(scheme), many)
            self.assertIs(type(size(scheme)), int)
            self.assertEqual(len(counts_of(scheme, ("", ""))), many)


class TestCountsOf(unittest.TestCase):
    def counts(self, groups, gaps, sides, alignment):
        counts = counts_of(Scheme(groups, gaps, sides), alignment)
        self.assertIsInstance(counts, list)
        for number in counts:
            self.assertIs(type(number), int)
        return counts

    def test_the_example_of_point_21(self):
        self.assertEqual(self.counts([], True, False, ("ab-", "-ba")), [0, 2, 2])
        self.assertEqual(self.counts([], True, False, ("-ab", "ba-")), [0, 2, 2])
        self.assertEqual(self.counts([], True, False, ("ab", "ba")), [2, 0, 0])
        self.assertEqual(self.counts([], True, False, ("a-b", "-ba")), [1, 2, 2])
        told = {tuple(self.counts([], True, False, alignment)) for alignment in every_alignment("ab", "ba")}
        self.assertEqual(told, {(0, 2, 2), (0, 2, 4), (0, 3, 4), (0, 4, 4), (1, 2, 2), (2, 0, 0)})

    def test_no_columns(self):
        for groups, gaps, sides in SCHEMES:
            self.assertEqual(set(self.counts(groups, gaps, sides, ("", ""))), {0})

    def test_the_order_of_the_counts(self):
        # One match of a and b, two other matches that differ, four gaps, three deletions, two insertions.
        alignment = ("ad-bdd-c", "b-cd--ba")
        self.assertEqual(self.counts([], False, False, alignment), [3, 5])
        self.assertEqual(self.counts([], True, False, alignment), [3, 4, 5])
        self.assertEqual(self.counts([], False, True, alignment), [3, 3, 2])
        self.assertEqual(self.counts([], True, True, alignment), [3, 4, 3, 2])
        self.assertEqual(self.counts(["ab"], False, False, alignment), [1, 2, 5])
        self.assertEqual(self.counts(["ab"], True, False, alignment), [1, 2, 4, 5])
        self.assertEqual(self.counts(["ab"], False, True, alignment), [1, 2, 3, 2])

    def test_deletions_and_insertions_by_sides(self):
        self.assertEqual(self.counts([], False, True, ("abc", "---")), [0, 3, 0])
        self.assertEqual(self.counts([], False, True, ("---", "abc")), [0, 0, 3])
        self.assertEqual(self.counts([], False, True, ("ab-", "--c")), [0, 2, 1])

    def test_gaps(self):
        for alignment, gaps in [
            (("a", "-"), 1), (("-", "a"), 1), (("aa", "--"), 1), (("--", "aa"), 1), (("ab-", "a-c"), 2),
            (("-b", "a-"), 2), (("--bb", "aa--"), 2), (("a-a-", "-a-a"), 4), (("-a-a", "a-a-"), 4),
            (("aaa", "-a-"), 2), (("-a-", "aaa"), 2), (("a", "a"), 0), (("a-b", "-ba"), 2), (("aaaa", "a--a"), 1),
            (("a-aa", "aa-a"), 2), (("-aa", "aaa"), 1), (("aa", "a-"), 1),
        ]:
            self.assertEqual(self.counts([], True, False, alignment)[1], gaps, alignment)
            self.assertEqual(self.counts([], True, True, alignment)[1], gaps, alignment)
            self.assertEqual(self.counts(["xy"], True, False, alignment)[2], gaps, alignment)

    def test_near_letters(self):
        groups = ["abc", "xy"]
        for alignment, counts in [
            (("a", "a"), [0, 0]), (("a", "b"), [1, 0]), (("b", "a"), [1, 0]), (("a", "c"), [1, 0]),
            (("x", "y"), [1, 0]), (("a", "x"), [0, 1]), (("x", "b"), [0, 1]), (("x", "x"), [0, 0]),
        ]:
            self.assertEqual(self.counts(groups, False, False, alignment)[:2], counts, alignment)

    def test_letters_in_no_group(self):
        for alignment, counts in [
            (("m", "n"), [0, 1]), (("m", "m"), [0, 0]), (("a", "m"), [0, 1]), (("m", "a"), [0, 1]), (("z", "x"), [0, 1]),
        ]:
            self.assertEqual(self.counts(["abc", "xy"], False, False, alignment)[:2], counts, alignment)

    def test_letters_opposite_to_a_dash_are_not_near(self):
        self.assertEqual(self.counts(["ab"], True, False, ("a-", "-b")), [0, 0, 2, 2])

    def test_all_alignments_of_short_sequences(self):
        for groups, gaps, sides in SCHEMES:
            for first in SHORT:
                for second in LONGER + ["", "b", "db"]:
                    for alignment in every_alignment(first, second):
                        self.assertEqual(self.counts(groups, gaps, sides, alignment),
                                         plain_counts(groups, gaps, sides, alignment), (groups, alignment))

    def test_longest_alignments(self):
        self.assertEqual(self.counts([], True, True, ("abcdef------", "------abcdef")), [0, 2, 6, 6])
        self.assertEqual(self.counts([], True, True, ("-a-b-c-d-e-f", "a-b-c-d-e-f-")), [0, 12, 6, 6])
        self.assertEqual(self.counts(["af", "be", "cd"], True, False, ("abcdef", "fedcba")), [6, 0, 0, 0])

    def test_the_answer_belongs_to_the_caller(self):
        scheme = Scheme(["ab"], True, False)
        told = counts_of(scheme, ("ab-", "bac"))
        kept = list(told)
        told[0] = 99
        told.append(5)
        self.assertEqual(counts_of(scheme, ("ab-", "bac")), kept)
        self.assertEqual(scheme.groups, ["ab"])


class TestCostOf(unittest.TestCase):
    def test_the_example_of_point_21(self):
        scheme = Scheme([], True, False)
        for alignment in [("ab", "ba"), ("ab-", "-ba"), ("-ab", "ba-")]:
            self.assertEqual(cost_of(scheme, alignment, [2, 1, 1]), 4)
        self.assertEqual(cost_of(scheme, ("a-b", "-ba"), [2, 1, 1]), 6)

    def test_each_place_has_its_cost(self):
        alignment = ("ad-bdd-c", "b-cd--ba")
        self.assertEqual(cost_of(Scheme(["ab"], True, False), alignment, [1000, 100, 10, 1]), 1245)
        self.assertEqual(cost_of(Scheme(["ab"], False, True), alignment, [1000, 100, 10, 1]), 1232)
        self.assertEqual(cost_of(Scheme([], True, True), alignment, [1000, 100, 10, 1]), 3432)
        self.assertEqual(cost_of(Scheme([], False, False), alignment, [10, 1]), 35)

    def test_least_and_greatest_costs(self):
        for groups, gaps, sides in SCHEMES:
            scheme = Scheme(groups, gaps, sides)
            for alignment in [("", ""), ("ab-c", "b-ad"), ("-a-b-c-d-e-f", "a-b-c-d-e-f-")]:
                counts = plain_counts(groups, gaps, sides, alignment)
                self.assertEqual(cost_of(scheme, alignment, [0] * len(counts)), 0)
                self.assertEqual(cost_of(scheme, alignment, [1000000] * len(counts)), 1000000 * sum(counts))
                self.assertIs(type(cost_of(scheme, alignment, [3] * len(counts))), int)

    def test_arguments_stay_as_they_are(self):
        costs = [3, 2, 1, 5]
        scheme = Scheme(["ab", "cd"], False, True)
        alignment = ("ab-c", "b-ad")
        # One match of a and b, a deletion, an insertion, a match of c and d.
        self.assertEqual(cost_of(scheme, alignment, costs), 2 * 3 + 1 + 5)
        self.assertEqual(costs, [3, 2, 1, 5])
        self.assertEqual(alignment, ("ab-c", "b-ad"))
        self.assertEqual((scheme.groups, scheme.gaps, scheme.sides), (["ab", "cd"], False, True))
        costs[0] = 0
        self.assertEqual(cost_of(scheme, alignment, [3, 2, 1, 5]), 12)


if __name__ == "__main__":
    unittest.main()
