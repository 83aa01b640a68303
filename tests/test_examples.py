import unittest
from copy import deepcopy
from itertools import combinations, product
from math import gcd

from rightfares.examples import explanation, is_explanation, is_refutation, largest_explained, refutation
from rightfares.schemes import Scheme
from rightfares.tables import table_of
from tests.every import (
    EXAMPLES,
    SCHEMES,
    changed,
    drawn_examples,
    every_alignment,
    letters_of,
    places,
    plain_balance,
    plain_best,
    plain_costs,
    plain_is_right,
    plain_refutes,
    plain_size,
    plain_table,
    some_costs,
)

KIND = ([], True, False)
EXAMPLE = Scheme(*KIND)
BOTH = [("ab-", "-ba"), ("ab", "ba")]
# Nothing explains the one alone, or the two together.
ALONE = [("a-b", "-ba")]
TOGETHER = [("a-", "-b"), ("ab", "ba")]
SIMPLE = Scheme([], False, False)


def lists_of_examples(kind):
    """Told lists of examples, and drawn ones."""
    return EXAMPLES + drawn_examples(14, kind, 40, 3)


class TestExplanation(unittest.TestCase):
    def test_the_example_of_point_21(self):
        costs, tables = explanation(EXAMPLE, BOTH)
        self.assertEqual(costs, [2, 1, 1])
        table = [[[0, None, None], [None, None, 2], [None, None, 3]], [[None, 2, None], [2, 4, 4], [2, 5, 4]],
                 [[None, 3, None], [2, 4, 5], [4, 4, 4]]]
        self.assertEqual(tables, [table, table])
        self.assertIsNone(explanation(EXAMPLE, ALONE))

    def test_inner_costs_and_least_costs(self):
        for kind in SCHEMES:
            scheme = Scheme(*kind)
            for examples in lists_of_examples(kind):
                told = explanation(scheme, examples)
                costs = plain_costs(kind, examples)
                if costs is None:
                    self.assertIsNone(told, examples)
                else:
                    self.assert_explains(kind, examples, told, costs)

    def assert_explains(self, kind, examples, told, costs):
        self.assertIsInstance(told, tuple)
        self.assertEqual(told[0], costs, examples)
        self.assertTrue(all(type(one) is int and one >= 1 for one in told[0]))
        self.assertEqual(gcd(*told[0]), 1)
        self.assertEqual(told[1], [plain_table(kind, *letters_of(rows), costs) for rows in examples])
        for rows in examples:
            self.assertIn(rows, plain_best(kind, *letters_of(rows), costs)[1])
        self.assertIs(is_explanation(Scheme(*kind), examples, told), True)

    def test_one_example_four_examples_and_one_twice(self):
        self.assertEqual(explanation(EXAMPLE, [("ab", "ba")])[0], [1, 1, 1])
        self.assertEqual(explanation(SIMPLE, [("a", "b")])[0], [1, 1])
        self.assertEqual(explanation(SIMPLE, [("a-", "-b")])[0], [3, 1])
        self.assertEqual(explanation(SIMPLE, [("a", "b"), ("a-", "-b")])[0], [2, 1])
        for examples in [[("a", "b")], BOTH, [("ab-", "-ba")]]:
            one, two = explanation(EXAMPLE, examples), explanation(EXAMPLE, examples + examples[:1])
            self.assertEqual(one[0], two[0])
            self.assertEqual(one[1] + one[1][:1], two[1])
        costs, tables = explanation(EXAMPLE, [("ab", "ba")] * 4)
        self.assertEqual((costs, len(tables)), ([1, 1, 1], 4))

    def test_empty_sequences(self):
        for kind in SCHEMES:
            many = plain_size(kind)
            self.assertEqual(explanation(Scheme(*kind), [("", "")]), ([1] * many, [[[[0, None, None]]]]))
            costs, tables = explanation(Scheme(*kind), [("", ""), ("abc", "---"), ("", ""), ("--", "ab")])
            self.assertEqual(costs, [1] * many)
            self.assertEqual([(len(table), len(table[0])) for table in tables], [(1, 1), (4, 1), (1, 1), (1, 3)])

    def test_what_nothing_explains(self):
        for examples in [ALONE, ALONE + BOTH, BOTH + ALONE, [("-a", "a-")], [("a-a", "aa-")]]:
            self.assertIsNone(explanation(EXAMPLE, examples))
        self.assertIsNone(explanation(SIMPLE, TOGETHER))
        for example in TOGETHER:
            self.assertIsNotNone(explanation(SIMPLE, [example]))

    def test_costs_of_0_do_not_explain(self):
        # This is best only if deletions and insertions cost nothing.
        self.assertIsNone(explanation(SIMPLE, [("a-", "-a")]))
        self.assertIsNone(explanation(EXAMPLE, [("aa-", "-aa")]))

    def test_answers_belong_to_the_caller(self):
        told = explanation(EXAMPLE, [("ab", "ba"), ("ab", "ba")])
        kept = deepcopy(told)
        told[0][0] = 9
        told[1][0][1][1][0] = 99
        # No table is part of another one.
        self.assertEqual(told[1][1], kept[1][1])
        told[1].pop()
        self.assertEqual(explanation(EXAMPLE, [("ab", "ba"), ("ab", "ba")]), kept)

    def test_arguments_stay_as_they_are(self):
        examples = list(BOTH)
        explanation(EXAMPLE, examples)
        self.assertEqual(examples, BOTH)


class TestIsExplanation(unittest.TestCase):
    def assert_told(self, examples, costs, tables, wanted):
        self.assertIs(is_explanation(EXAMPLE, examples, (costs, tables)), wanted, (examples, costs, tables))

    def tables(self, examples, costs):
        return [table_of(EXAMPLE, *letters_of(rows), costs) for rows in examples]

    def test_the_explanation_itself(self):
        for kind in SCHEMES:
            for examples in lists_of_examples(kind):
                told = explanation(Scheme(*kind), examples)
                if told is not None:
                    self.assertIs(is_explanation(Scheme(*kind), examples, told), True)

    def test_other_costs_with_their_tables(self):
        for kind in SCHEMES:
            for examples in EXAMPLES:
                for costs in some_costs(plain_size(kind)):
                    tables = [plain_table(kind, *letters_of(rows), costs) for rows in examples]
                    wanted = min(costs) >= 1 and all(rows in plain_best(kind, *letters_of(rows), costs)[1]
                                                     for rows in examples)
                    self.assertIs(is_explanation(Scheme(*kind), examples, (costs, tables)), wanted, (examples, costs))

    def test_multiples_of_the_costs(self):
        for factor in [1, 2, 7, 500000]:
            costs = [2 * factor, factor, factor]
            self.assert_told(BOTH, costs, self.tables(BOTH, costs), True)
        self.assert_told(BOTH, [1000000, 1, 999999], self.tables(BOTH, [1000000, 1, 999999]), True)

    def test_costs_out_of_bounds(self):
        same = [("ab", "ab")]
        for place in range(3):
            for number, wanted in [(1000000, True), (1000001, False), (10 ** 30, False), (0, False), (1, True)]:
                costs = [3, 3, 3]
                costs[place] = number
                self.assert_told(same, costs, self.tables(same, costs), wanted)
        self.assert_told(BOTH, [1000002, 500001, 500001], self.tables(BOTH, [1000002, 500001, 500001]), False)
        self.assert_told([("", "")], [0, 1, 1], [[[[0, None, None]]]], False)
        self.assert_told([("", "")], [-1, 1, 1], [[[[0, None, None]]]], False)

    def test_costs_that_are_no_integers(self):
        tables = self.tables(BOTH, [2, 1, 1])
        for place in range(3):
            for thing in [True, False, "1", "", None, 1.0, 2.0, [1], (1,), {}, b"1", object()]:
                costs = [2, 1, 1]
                costs[place] = thing
                self.assert_told(BOTH, costs, tables, False)
        self.assert_told([("", "")], [True, True, True], [[[[0, None, None]]]], False)
        self.assert_told([("", "")], ["1", "1", "1"], [[[[0, None, None]]]], False)

    def test_too_few_and_too_many_costs(self):
        tables = self.tables(BOTH, [2, 1, 1])
        for costs in [[], [2], [2, 1], [2, 1, 1, 1], [2, 1, 1, 0], [2, 1, 1, None], [2, 1, 1] * 2, (2, 1, 1), None]:
            self.assert_told(BOTH, costs, tables, False)
            self.assert_told([("", "")], costs, [[[[0, None, None]]]], False)

    def test_too_few_and_too_many_tables(self):
        one, two = self.tables(BOTH, [2, 1, 1])
        for tables in [[], [one], [one, two, one], [one, two, []], [[], one, two], None, (one, two), "ab"]:
            self.assert_told(BOTH, [2, 1, 1], tables, False)
        self.assert_told(BOTH, [2, 1, 1], [one, two], True)
        self.assert_told([("", "")], [2, 1, 1], [], False)

    def test_tables_of_other_sequences(self):
        examples = [("ab", "ba"), ("abc", "--c")]
        one, two = self.tables(examples, [2, 1, 1])
        self.assert_told(examples, [2, 1, 1], [one, two], True)
        for tables in [[two, one], [one, one], [two, two]]:
            self.assert_told(examples, [2, 1, 1], tables, False)
        for first, second in [("", ""), ("ab", "b"), ("ab", "ab"), ("abc", "ba"), ("aa", "aa")]:
            self.assert_told(examples, [2, 1, 1], [table_of(EXAMPLE, first, second, [2, 1, 1]), two], False)

    def test_tables_of_no_form(self):
        table = self.tables(BOTH, [2, 1, 1])[0]
        for other in [None, 0, True, "", "abc", (), {}, [], [[]], [[[]]], [None] * 3, [[None] * 3] * 3, [[0] * 3] * 3,
                      tuple(table), [tuple(row) for row in table], [[tuple(v) for v in row] for row in table],
                      table[:2], table + table[:1], [row[:2] for row in table], [[[None] * 3] * 3] * 3]:
            self.assert_told(BOTH, [2, 1, 1], [table, other], False)
            self.assert_told(BOTH, [2, 1, 1], [other, table], False)

    def test_each_entry_changed(self):
        for kind in [([], False, False), ([], True, False), (["ab"], False, True)]:
            scheme = Scheme(*kind)
            for examples in [[("ab", "ba")], [("a", "b"), ("ab", "-b")], [("", "")], [("abb", "a-b")]]:
                costs, tables = explanation(scheme, examples)
                for at, place in [(at, place) for at, table in enumerate(tables) for place in places(table)]:
                    self.assert_changes(kind, examples, costs, tables, at, place)

    def assert_changes(self, kind, examples, costs, tables, at, place):
        """An explanation with another entry is one only if the table is still right and bounds by the cost."""
        first, second = letters_of(examples[at])
        least, _ = plain_best(kind, first, second, costs)
        value = tables[at][place[0]][place[1]][place[2]]
        for other in [None, (value or 0) - 1, (value or 0) + 1, 10 ** 20, True, "0"]:
            table = changed(tables[at], place, other)
            wanted = other is not True and other != "0" and plain_is_right(kind, first, second, costs, table)
            wanted = wanted and min(number for number in table[-1][-1] if number is not None) == least
            told = (costs, tables[:at] + [table] + tables[at + 1:])
            self.assertIs(is_explanation(Scheme(*kind), examples, told), wanted, (told, at, place))

    def test_right_tables_with_a_lower_bound(self):
        table = changed(self.tables([("ab", "ba")], [2, 1, 1])[0], (2, 2, 0), 3)
        self.assert_told([("ab", "ba")], [2, 1, 1], [table], False)
        # The table is right, but the example costs more.
        self.assert_told([("a-b", "-ba")], [2, 1, 1], self.tables([("a-b", "-ba")], [2, 1, 1]), False)
        self.assert_told([("ab", "ba")], [3, 1, 1], self.tables([("ab", "ba")], [3, 1, 1]), False)

    def test_costs_of_0_with_right_tables(self):
        told = ([1, 0], [table_of(SIMPLE, "a", "a", [1, 0])])
        self.assertIs(is_explanation(SIMPLE, [("a-", "-a")], told), False)

    def test_arguments_stay_as_they_are(self):
        told = explanation(EXAMPLE, BOTH)
        kept = deepcopy(told)
        is_explanation(EXAMPLE, BOTH, told)
        self.assertEqual(told, kept)


class TestRefutation(unittest.TestCase):
    def test_the_example_of_point_21(self):
        rivals = [(0, ("ab-", "-ba"), 1)]
        self.assertIs(is_refutation(EXAMPLE, ALONE, rivals), True)
        self.assertEqual(plain_balance(KIND, ALONE, rivals), [-1, 0, 0])
        self.assert_refutes(KIND, ALONE, refutation(EXAMPLE, ALONE))
        self.assertIsNone(refutation(EXAMPLE, BOTH))

    def assert_refutes(self, kind, examples, rivals):
        self.assertIsInstance(rivals, list)
        self.assertTrue(1 <= len(rivals) <= plain_size(kind), rivals)
        for rival in rivals:
            self.assertIsInstance(rival, tuple)
            e, alignment, weight = rival
            self.assertTrue(type(e) is int and type(weight) is int and weight >= 1)
            self.assertIn(alignment, every_alignment(*letters_of(examples[e])))
        self.assertTrue(plain_refutes(kind, examples, rivals), (examples, rivals))
        self.assertIs(is_refutation(Scheme(*kind), examples, rivals), True)

    def test_just_one_of_both(self):
        for kind in SCHEMES:
            refuted = 0
            for examples in lists_of_examples(kind):
                told = refutation(Scheme(*kind), examples)
                if plain_costs(kind, examples) is None:
                    self.assert_refutes(kind, examples, told)
                    refuted += 1
                else:
                    self.assertIsNone(told, examples)
            # There are enough of each.
            self.assertTrue(10 <= refuted <= 42, refuted)

    def test_more_than_one_rival_is_needed(self):
        rivals = refutation(SIMPLE, TOGETHER)
        self.assert_refutes(([], False, False), TOGETHER, rivals)
        most = 0
        for kind in SCHEMES:
            for examples in drawn_examples(15, kind, 60, 4):
                rivals = refutation(Scheme(*kind), examples)
                if rivals is not None:
                    self.assert_refutes(kind, examples, rivals)
                    most = max(most, len(rivals))
        self.assertGreaterEqual(most, 2)

    def test_rivals_cost_less(self):
        for examples in [ALONE, TOGETHER + ALONE, BOTH + ALONE, [("-a", "a-")], [("a-a", "aa-")]]:
            rivals = refutation(EXAMPLE, examples)
            for costs in product([1, 2, 5, 1000000], repeat=3):
                self.assertLess(sum(one * more for one, more in zip(costs, plain_balance(KIND, examples, rivals))), 0)

    def test_examples_twice_and_four(self):
        for examples in [ALONE * 2, ALONE * 4, BOTH + ALONE * 2, [("", "")] + ALONE + [("", "")]]:
            self.assert_refutes(KIND, examples, refutation(EXAMPLE, examples))
        self.assertIsNone(refutation(EXAMPLE, BOTH * 2))

    def test_empty_sequences(self):
        for kind in SCHEMES:
            for examples in [[("", "")], [("", "")] * 4, [("abc", "---"), ("", ""), ("------", "abcdef")]]:
                self.assertIsNone(refutation(Scheme(*kind), examples))

    def test_answers_belong_to_the_caller(self):
        told = refutation(EXAMPLE, ALONE)
        kept = deepcopy(told)
        told.append(7)
        told[0] = None
        self.assertEqual(refutation(EXAMPLE, ALONE), kept)


class TestIsRefutation(unittest.TestCase):
    RIVAL = (0, ("ab-", "-ba"), 1)

    def assert_told(self, rivals, wanted, examples=ALONE):
        self.assertIs(is_refutation(EXAMPLE, examples, rivals), wanted, (examples, rivals))

    def test_the_empty_list(self):
        for examples in [ALONE, BOTH, TOGETHER, [("", "")]]:
            self.assert_told([], False, examples)

    def test_weights(self):
        for weight in [1, 2, 1000000, 10 ** 30]:
            self.assert_told([(0, ("ab-", "-ba"), weight)], True)
        for weight in [0, -1, -10 ** 30, True, False, "1", None, 1.0, [1], (1,)]:
            self.assert_told([(0, ("ab-", "-ba"), weight)], False)
            self.assert_told([self.RIVAL, (0, ("ab-", "-ba"), weight)], False)
            self.assert_told([(0, ("ab-", "-ba"), weight), self.RIVAL], False)

    def test_numbers_of_examples(self):
        for examples in [ALONE, ALONE * 2, ALONE * 4]:
            for e in range(len(examples)):
                self.assert_told([(e, ("ab-", "-ba"), 1)], True, examples)
            for e in [len(examples), len(examples) + 1, -1, -len(examples), 10 ** 30, True, False, "0", None, 0.0, [0]]:
                self.assert_told([(e, ("ab-", "-ba"), 1)], False, examples)
                self.assert_told([self.RIVAL, (e, ("ab-", "-ba"), 1)], False, examples)

    def test_things_that_are_no_alignment(self):
        for thing in [None, 0, "ab", "ab-", (), ("ab-",), ["ab-", "-ba"], ("ab-", "-ba", ""), ("ab", "-ba"),
                      ("ab--", "--ba-"), ("ab--", "-b-a"), ("a--b", "-b-a", "x"), ("ab-", "-BA"), ("ab ", " ba"),
                      (("a", "b", "-"), ("-", "b", "a")), (None, None), ("ab-", None), {}, ("a-b-", "--ba")]:
            self.assert_told([(0, thing, 1)], False)
            self.assert_told([self.RIVAL, (0, thing, 1)], False)

    def test_alignments_of_other_sequences(self):
        for alignment in [("ba-", "-ab"), ("", ""), ("ab", "ab"), ("a", "b"), ("ab-", "-bb"), ("aa", "ba"), ("-ba", "ab-")]:
            self.assert_told([(0, alignment, 1)], False)
            self.assert_told([self.RIVAL, (0, alignment, 1)], False)
        # The number says of which example the alignment is a rival.
        examples = [("a-b", "-ba"), ("b", "b")]
        self.assert_told([(0, ("ab-", "-ba"), 1)], True, examples)
        self.assert_told([(1, ("ab-", "-ba"), 1)], False, examples)
        self.assert_told([(1, ("b", "b"), 1), self.RIVAL], True, examples)

    def test_a_balance_of_0(self):
        self.assert_told([(0, ("a-b", "-ba"), 1)], False)
        self.assert_told([(0, ("a-b", "-ba"), 5), (0, ("-ab", "b-a"), 2)], False)
        self.assert_told([(0, ("ab", "ba"), 1)], False, [("ab", "ba")])
        self.assert_told([(0, ("", ""), 1)], False, [("", "")])
        self.assert_told([(0, ("-ab", "ba-"), 3)], False, [("ab-", "-ba")])
        # One less and one more: the sum is 0 everywhere.
        examples = [("a-b", "-ba"), ("ab-", "-ba")]
        self.assert_told([(0, ("ab-", "-ba"), 1), (1, ("a-b", "-ba"), 1)], False, examples)
        self.assert_told([(0, ("ab-", "-ba"), 2), (1, ("a-b", "-ba"), 1)], True, examples)
        self.assert_told([(0, ("ab-", "-ba"), 1), (1, ("a-b", "-ba"), 2)], False, examples)

    def test_one_place_above_0(self):
        # By themselves the balances are [1, -2, -2] and [-1, 0, 0].
        self.assert_told([(0, ("ab", "ba"), 1)], False)
        self.assert_told([(0, ("ab", "ba"), 2), (0, ("ab-", "-ba"), 1)], False)
        self.assert_told([(0, ("ab", "ba"), 1), (0, ("ab-", "-ba"), 1)], True)
        self.assert_told([(0, ("ab", "ba"), 11), (0, ("ab-", "-ba"), 10)], False)

    def test_the_same_rival_twice(self):
        self.assert_told([self.RIVAL, self.RIVAL], True)
        self.assert_told([self.RIVAL] * 20, True)

    def test_all_pairs_of_rivals(self):
        for kind, examples in [(([], False, False), TOGETHER), (KIND, [("a-b", "-ba"), ("a", "b")]), (KIND, BOTH),
                               ((["ab"], False, True), [("ab", "ba"), ("a-", "-b")])]:
            rivals = [(e, alignment) for e, rows in enumerate(examples)
                      for alignment in every_alignment(*letters_of(rows))]
            for (e, one), (f, two) in combinations(rivals, 2):
                for weight, other in [(1, 1), (1, 2), (3, 1)]:
                    told = [(e, one, weight), (f, two, other)]
                    self.assertIs(is_refutation(Scheme(*kind), examples, told), plain_refutes(kind, examples, told))

    def test_what_is_explained_has_none(self):
        for kind in [([], False, False), KIND]:
            rivals = [(e, alignment, weight) for e in range(2) for alignment in every_alignment("ab", "ba")
                      for weight in [1, 3]]
            for told in combinations(rivals, 2):
                self.assertIs(is_refutation(Scheme(*kind), [("ab", "ba"), ("ab", "ba")], list(told)), False)

    def test_more_rivals_than_the_size(self):
        self.assert_told([(0, alignment, 7) for alignment in [("ab-", "-ba"), ("-ab", "ba-"), ("a-b", "-ba")] * 3], True)

    def test_arguments_stay_as_they_are(self):
        rivals = [self.RIVAL]
        is_refutation(EXAMPLE, ALONE, rivals)
        self.assertEqual((rivals, ALONE), ([(0, ("ab-", "-ba"), 1)], [("a-b", "-ba")]))


class TestLargestExplained(unittest.TestCase):
    def test_all_lists(self):
        for kind in SCHEMES:
            for examples in EXAMPLES + drawn_examples(16, kind, 25, 3):
                wanted = [list(chosen) for many in range(1, len(examples) + 1)
                          for chosen in combinations(range(len(examples)), many)
                          if plain_costs(kind, [examples[e] for e in chosen]) is not None]
                most = max([len(chosen) for chosen in wanted], default=0)
                first = min([chosen for chosen in wanted if len(chosen) == most], default=[])
                self.assertEqual(largest_explained(Scheme(*kind), examples), first, examples)

    def test_all_and_none(self):
        self.assertEqual(largest_explained(EXAMPLE, BOTH), [0, 1])
        self.assertEqual(largest_explained(EXAMPLE, BOTH * 2), [0, 1, 2, 3])
        self.assertEqual(largest_explained(EXAMPLE, ALONE), [])
        self.assertEqual(largest_explained(EXAMPLE, ALONE * 4), [])
        self.assertEqual(largest_explained(EXAMPLE, [("", "")]), [0])

    def test_the_first_one_of_several(self):
        for scheme in [SIMPLE, EXAMPLE]:
            self.assertEqual(largest_explained(scheme, TOGETHER), [0])
            self.assertEqual(largest_explained(scheme, TOGETHER[::-1]), [0])
            self.assertEqual(largest_explained(scheme, [("-a", "a-")] + TOGETHER), [1])
            self.assertEqual(largest_explained(scheme, TOGETHER * 2), [0, 2])
            self.assertEqual(largest_explained(scheme, TOGETHER + TOGETHER[::-1]), [0, 3])
            self.assertEqual(largest_explained(scheme, [TOGETHER[0], TOGETHER[1], TOGETHER[1]]), [1, 2])
        self.assertEqual(largest_explained(EXAMPLE, ALONE + BOTH + ALONE), [1, 2])

    def test_arguments_and_answers(self):
        examples = TOGETHER + ALONE
        told = largest_explained(SIMPLE, examples)
        told.append(9)
        self.assertEqual(examples, TOGETHER + ALONE)
        self.assertEqual(largest_explained(SIMPLE, examples), [0])


if __name__ == "__main__":
    unittest.main()
