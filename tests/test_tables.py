import unittest
from copy import deepcopy

from rightfares.schemes import Scheme
from rightfares.tables import bound_of, is_right, table_of
from tests.every import (
    LONG_PAIRS,
    PAIRS,
    SCHEMES,
    changed,
    places,
    plain_best,
    plain_is_right,
    plain_size,
    plain_table,
    some_costs,
)

EXAMPLE = Scheme([], True, False)
COSTS = [2, 1, 1]


class TestTableOf(unittest.TestCase):
    def test_by_hand(self):
        self.assertEqual(table_of(EXAMPLE, "", "", COSTS), [[[0, None, None]]])
        self.assertEqual(table_of(EXAMPLE, "a", "", COSTS), [[[0, None, None]], [[None, 2, None]]])
        self.assertEqual(table_of(EXAMPLE, "", "ab", COSTS), [[[0, None, None], [None, None, 2], [None, None, 3]]])
        self.assertEqual(table_of(EXAMPLE, "a", "b", COSTS),
                         [[[0, None, None], [None, None, 2]], [[None, 2, None], [2, 4, 4]]])

    def test_least_costs_of_all_beginnings(self):
        for kind in SCHEMES:
            scheme = Scheme(*kind)
            for first, second in PAIRS:
                for costs in some_costs(plain_size(kind))[:4]:
                    told = table_of(scheme, first, second, costs)
                    self.assertEqual(told, plain_table(kind, first, second, costs), (first, second, costs))
                    self.assertIs(is_right(scheme, first, second, costs, told), True)

    def test_is_right_and_bounds_by_the_least_cost(self):
        for kind in SCHEMES:
            scheme = Scheme(*kind)
            for first, second in PAIRS + LONG_PAIRS:
                for costs in some_costs(plain_size(kind))[::4]:
                    told = table_of(scheme, first, second, costs)
                    least, _ = plain_best(kind, first, second, costs)
                    self.assertIs(is_right(scheme, first, second, costs, told), True)
                    self.assertEqual(bound_of(told), least)

    def test_sizes_for_six_letters(self):
        for first, second in LONG_PAIRS + [("", "abcdef")]:
            told = table_of(EXAMPLE, first, second, [1000000] * 3)
            self.assertEqual(len(told), len(first) + 1)
            self.assertEqual({len(row) for row in told}, {len(second) + 1})
            self.assertEqual({len(values) for row in told for values in row}, {3})

    def test_the_answer_belongs_to_the_caller(self):
        told = table_of(EXAMPLE, "ab", "ba", COSTS)
        kept = deepcopy(told)
        told[0][0][0] = 5
        told[1].pop()
        told.append([])
        self.assertEqual(table_of(EXAMPLE, "ab", "ba", COSTS), kept)


class TestIsRight(unittest.TestCase):
    def test_one_value_changed(self):
        for kind in [([], False, False), ([], True, False), ([], True, True), (["ab"], False, True)]:
            for first, second in [("", ""), ("a", ""), ("", "b"), ("ab", "ba"), ("aab", "ab")]:
                for costs in some_costs(plain_size(kind))[:4]:
                    self.assert_changes(kind, first, second, costs)

    def assert_changes(self, kind, first, second, costs):
        table = table_of(Scheme(*kind), first, second, costs)
        for place in places(table):
            i, j, k = place
            value = table[i][j][k] or 0
            for other in [None, value - 1, value + 1, 0, value - 10, 10 ** 30, -10 ** 30]:
                different = changed(table, place, other)
                self.assertIs(is_right(Scheme(*kind), first, second, costs, different),
                              plain_is_right(kind, first, second, costs, different), (place, other))

    def test_changes_that_are_not_right(self):
        table = table_of(EXAMPLE, "ab", "ba", COSTS)
        for place, value in [((0, 0, 0), 1), ((0, 0, 0), -1), ((0, 0, 0), None), ((2, 2, 0), None), ((1, 1, 0), None),
                             ((2, 2, 0), 5), ((1, 1, 0), 3), ((1, 0, 1), 3), ((0, 0, 1), 0), ((1, 0, 0), -5)]:
            self.assertIs(is_right(EXAMPLE, "ab", "ba", COSTS, changed(table, place, value)), False, place)

    def test_changes_that_are_right(self):
        table = table_of(EXAMPLE, "ab", "ba", COSTS)
        # Values behind which nothing comes, and values great enough for nodes that no beginning has.
        for place, value in [((2, 2, 0), 3), ((2, 2, 0), -99), ((2, 2, 1), -99), ((0, 0, 1), 4), ((0, 0, 2), 99),
                             ((1, 0, 0), 50), ((0, 1, 0), 50), ((0, 1, 1), 10 ** 30)]:
            self.assertIs(is_right(EXAMPLE, "ab", "ba", COSTS, changed(table, place, value)), True, place)

    def test_bounds_up_to_the_least_cost(self):
        table = table_of(EXAMPLE, "ab", "ba", COSTS)
        for bound in [4, 3, 1, 0, -1, -100]:
            lower = changed(table, (2, 2, 0), bound)
            self.assertIs(is_right(EXAMPLE, "ab", "ba", COSTS, lower), True)
            self.assertEqual(bound_of(lower), bound)
        higher = changed(changed(changed(table, (2, 2, 0), 5), (2, 2, 1), 5), (2, 2, 2), 5)
        self.assertEqual(bound_of(higher), 5)
        self.assertIs(is_right(EXAMPLE, "ab", "ba", COSTS, higher), False)

    def test_right_for_some_costs_only(self):
        for kind in SCHEMES:
            for first, second in [("ab", "ba"), ("aab", "cb"), ("abd", "")]:
                told = some_costs(plain_size(kind))
                for costs in told:
                    table = table_of(Scheme(*kind), first, second, costs)
                    for others in told:
                        self.assertIs(is_right(Scheme(*kind), first, second, others, table),
                                      plain_is_right(kind, first, second, others, table), (costs, others))

    def test_a_right_table_bounds_all_alignments(self):
        for kind in [([], True, False), (["ab"], True, False)]:
            least, _ = plain_best(kind, "ab", "ba", [3, 2, 1, 1][:plain_size(kind)])
            for costs in some_costs(plain_size(kind)):
                table = table_of(Scheme(*kind), "ab", "ba", costs)
                if is_right(Scheme(*kind), "ab", "ba", [3, 2, 1, 1][:plain_size(kind)], table):
                    self.assertLessEqual(bound_of(table), least)

    def test_tables_of_other_sequences(self):
        for first, second in [("ab", "b"), ("a", "ba"), ("", ""), ("abc", "ba"), ("ab", "bac"), ("ab", "")]:
            table = table_of(EXAMPLE, first, second, COSTS)
            self.assertIs(is_right(EXAMPLE, first, second, COSTS, table), True)
            self.assertIs(is_right(EXAMPLE, "ab", "ba", COSTS, table), False)

    def test_sizes(self):
        table = table_of(EXAMPLE, "ab", "ba", COSTS)
        others = [[], [[]], [[[]]], [[], [], []], table[:2], table[:-1], table + [table[2]], table + [[]], [[]] + table]
        others += [table[:2] + [table[2][:2]], table[:2] + [table[2] + [[0, 0, 0]]], [table[0] + [[]]] + table[1:],
                   [table[0][1:]] + table[1:], table[:2] + [[]]]
        for place in [(0, 0), (1, 2), (2, 2)]:
            for length in [0, 1, 2, 4]:
                other = deepcopy(table)
                other[place[0]][place[1]] = ([0] + [None] * 3)[:length] if place == (0, 0) else [4] * length
                others.append(other)
        for other in others:
            self.assertIs(is_right(EXAMPLE, "ab", "ba", COSTS, other), False, other)
            self.assertIs(is_right(EXAMPLE, "", "", COSTS, other), False, other)

    def test_none_everywhere(self):
        empty = [[[None] * 3 for _ in range(3)] for _ in range(3)]
        self.assertIs(is_right(EXAMPLE, "ab", "ba", COSTS, empty), False)
        self.assertIs(is_right(EXAMPLE, "ab", "ba", COSTS, changed(empty, (0, 0, 0), 0)), False)
        self.assertIs(is_right(EXAMPLE, "", "", COSTS, [[[None] * 3]]), False)

    def test_empty_sequences(self):
        for values in [[0, None, None], [0, 5, -7], [0, 0, 0]]:
            self.assertIs(is_right(EXAMPLE, "", "", COSTS, [[values]]), True, values)
        for values in [[1, None, None], [None, 0, 0], [-1, 0, 0], [0, None], [0], [0, None, None, None], []]:
            self.assertIs(is_right(EXAMPLE, "", "", COSTS, [[values]]), False, values)

    def test_values_that_are_no_integers(self):
        for thing in [True, False, "", "0", "a", 0.0, 2.0, 1e9, [], [0], (), (0,), {}, b"0", object(), 2j, int]:
            for first, second in [("ab", "ba"), ("", "")]:
                table = table_of(EXAMPLE, first, second, COSTS)
                for place in places(table):
                    different = changed(table, place, thing)
                    self.assertIs(is_right(EXAMPLE, first, second, COSTS, different), False, (place, thing))

    def test_bools_where_an_integer_would_do(self):
        self.assertIs(is_right(EXAMPLE, "a", "a", [0, 0, 0], [[[0, 9, 9], [9, 9, 0]], [[9, 0, 9], [0, 0, 0]]]), True)
        self.assertIs(is_right(EXAMPLE, "a", "a", [0, 0, 0], [[[False, 9, 9], [9, 9, 0]], [[9, 0, 9], [0, 0, 0]]]),
                      False)
        self.assertIs(is_right(EXAMPLE, "a", "a", [0, 0, 0], [[[0, 9, 9], [9, 9, 0]], [[9, 0, 9], [0, 0, False]]]),
                      False)
        self.assertIs(is_right(EXAMPLE, "a", "a", [0, 0, 0], [[[0, True, 9], [9, 9, 0]], [[9, 0, 9], [0, 0, 0]]]),
                      False)

    def test_six_letters(self):
        for kind in SCHEMES:
            for costs in some_costs(plain_size(kind)):
                table = table_of(Scheme(*kind), "abcdef", "fedcba", costs)
                self.assertIs(is_right(Scheme(*kind), "abcdef", "fedcba", costs, table), True)
                more = changed(table, (6, 6, 0), table[6][6][0] + 1)
                self.assertIs(is_right(Scheme(*kind), "abcdef", "fedcba", costs, more), False)

    def test_arguments_stay_as_they_are(self):
        table = table_of(EXAMPLE, "ab", "ba", COSTS)
        before = deepcopy(table)
        costs = list(COSTS)
        is_right(EXAMPLE, "ab", "ba", costs, table)
        bound_of(table)
        table_of(EXAMPLE, "ab", "ba", costs)
        self.assertEqual(table, before)
        self.assertEqual(costs, COSTS)


class TestBoundOf(unittest.TestCase):
    def test_the_least_integer_of_the_last_list(self):
        for values, bound in [([4, None, None], 4), ([5, 3, 4], 3), ([None, None, -2], -2), ([0, 1, None], 0), ([7], 7),
                              ([None, 10 ** 30, None], 10 ** 30), ([9, 8, 7, 6, 5], 5)]:
            self.assertEqual(bound_of([[values]]), bound)
            self.assertEqual(bound_of([[[-99, -99, -99], [1, 2, 3]], [[-98, -98, -98], values]]), bound)

    def test_no_integer(self):
        for values in [[None, None, None], [None], []]:
            self.assertIsNone(bound_of([[values]]))
            self.assertIsNone(bound_of([[[1, 2, 3]], [[4, 5, 6], values]]))


if __name__ == "__main__":
    unittest.main()
