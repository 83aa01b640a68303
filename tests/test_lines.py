import unittest
from copy import deepcopy
from fractions import Fraction
from math import gcd
from random import Random

from rightfares.lines import turns
from rightfares.schemes import Scheme
from tests.every import LONG_PAIRS, PAIRS, SCHEMES, cost, plain_possible, plain_size, some_costs

EXAMPLE = Scheme([], True, False)
SIMPLE = Scheme([], False, False)


def best_counts_at(possible, start, end, place):
    """The counts that are best for the costs at a fraction."""
    costs = [(1 - place) * one + place * other for one, other in zip(start, end)]
    least = min(cost(counts, costs) for counts in possible)
    return [counts for counts in possible if cost(counts, costs) == least]


def plain_turns(kind, first, second, start, end):
    """The turns, and the best counts of each piece: whatever turns does so where two counts cost the same."""
    possible = plain_possible(kind, first, second)
    ends = {(cost(counts, start), cost(counts, end)) for counts in possible}
    meetings = {Fraction(a - c, (a - c) - (b - d)) for a, b in ends for c, d in ends if (a - c) != (b - d)}
    places = [Fraction(0)] + sorted(place for place in meetings if 0 < place < 1) + [Fraction(1)]
    found, pieces = [], []
    for before, behind in zip(places, places[1:]):
        # Between two meetings the same counts are best everywhere.
        best = best_counts_at(possible, start, end, (before + behind) / 2)
        if not pieces:
            pieces.append(best)
        elif best != pieces[-1]:
            found.append((before.numerator, before.denominator))
            pieces.append(best)
    return (found, pieces)


class TestTurns(unittest.TestCase):
    def assert_turns(self, kind, first, second, start, end):
        told = turns(Scheme(*kind), first, second, start, end)
        self.assertEqual(told, plain_turns(kind, first, second, start, end), (kind, first, second, start, end))
        self.assert_form(told)
        return told

    def assert_form(self, told):
        self.assertIsInstance(told, tuple)
        found, pieces = told
        self.assertEqual(len(pieces), len(found) + 1)
        for turn in found:
            self.assertIsInstance(turn, tuple)
            n, d = turn
            self.assertTrue(0 < n < d and gcd(n, d) == 1, turn)
        for (n, d), (m, e) in zip(found, found[1:]):
            self.assertLess(n * e, m * d)
        for piece in pieces:
            self.assertTrue(piece)
            self.assertEqual(piece, sorted(piece))
        for one, other in zip(pieces, pieces[1:]):
            self.assertNotEqual(one, other)

    def test_by_hand(self):
        self.assertEqual(turns(SIMPLE, "a", "b", [1, 5], [5, 1]), ([(3, 4)], [[[1, 0]], [[0, 2]]]))
        self.assertEqual(turns(SIMPLE, "a", "b", [5, 1], [1, 5]), ([(1, 4)], [[[0, 2]], [[1, 0]]]))
        self.assertEqual(turns(EXAMPLE, "ab", "ba", [1, 5, 5], [5, 1, 1]), ([(3, 4)], [[[2, 0, 0]], [[0, 2, 2]]]))
        self.assertEqual(turns(EXAMPLE, "", "", [1, 2, 3], [3, 2, 1]), ([], [[[0, 0, 0]]]))
        self.assertEqual(turns(EXAMPLE, "ab", "ab", [1, 2, 3], [3, 2, 1]), ([], [[[0, 0, 0]]]))

    def test_all_meetings(self):
        for kind in SCHEMES:
            told = some_costs(plain_size(kind))
            for first, second in PAIRS:
                for start, end in zip(told, told[1:] + told[:1]):
                    self.assert_turns(kind, first, second, start, end)

    def test_drawn_costs(self):
        draw = Random(18)
        most = 0
        for kind in SCHEMES:
            for first, second in [("abc", "cab"), ("abdb", "cad"), ("cab", "abcd"), ("aab", "bba"), ("abcd", "dcba")]:
                for top in [3, 10, 1000000]:
                    start, end = [[draw.randint(0, top) for _ in range(plain_size(kind))] for _ in range(2)]
                    found, _ = self.assert_turns(kind, first, second, start, end)
                    most = max(most, len(found))
        self.assertGreaterEqual(most, 2)

    def test_six_letters(self):
        draw = Random(19)
        for kind in SCHEMES:
            for first, second in LONG_PAIRS:
                start, end = [[draw.randint(0, 9) for _ in range(plain_size(kind))] for _ in range(2)]
                told = turns(Scheme(*kind), first, second, start, end)
                self.assert_form(told)
                possible = plain_possible(kind, first, second)
                places = [Fraction(0)] + [Fraction(*turn) for turn in told[0]] + [Fraction(1)]
                for before, behind, piece in zip(places, places[1:], told[1]):
                    for part in [Fraction(1, 1000), Fraction(1, 2), Fraction(999, 1000)]:
                        place = before + part * (behind - before)
                        self.assertEqual(best_counts_at(possible, start, end, place), piece)

    def test_several_turns(self):
        for kind, first, second, start, end, many in [
            (([], True, False), "abcd", "dcba", [0, 1, 1], [9, 0, 1], 2),
            (([], False, True), "abcabd", "dbacba", [1, 9, 9], [9, 1, 1], 2),
        ]:
            found, pieces = turns(Scheme(*kind), first, second, start, end)
            self.assertGreaterEqual(len(found), many)
            self.assertEqual((found, pieces), plain_turns(kind, first, second, start, end))

    def test_equal_costs_at_both_ends(self):
        for kind in SCHEMES:
            for costs in some_costs(plain_size(kind)):
                for first, second in [("", ""), ("ab", "ba"), ("abc", "cab"), ("aa", "aaa")]:
                    found, pieces = self.assert_turns(kind, first, second, costs, list(costs))
                    self.assertEqual(found, [])
                    self.assertEqual(pieces, [best_counts_at(plain_possible(kind, first, second), costs, costs, 0)])

    def test_costs_that_are_multiples_of_each_other(self):
        for kind in SCHEMES:
            for costs in some_costs(plain_size(kind)):
                for factor in [2, 3, 1000]:
                    for start, end in [(costs, [factor * one for one in costs]), ([factor * one for one in costs], costs)]:
                        found, pieces = self.assert_turns(kind, "abc", "cab", start, end)
                        self.assertEqual((found, len(pieces)), ([], 1))

    def test_costs_of_0_at_an_end(self):
        for kind in SCHEMES:
            nothing = [0] * plain_size(kind)
            for costs in some_costs(plain_size(kind)):
                for first, second in [("ab", "ba"), ("abc", "cab"), ("a", "")]:
                    possible = plain_possible(kind, first, second)
                    best = best_counts_at(possible, costs, costs, 0)
                    self.assertEqual(self.assert_turns(kind, first, second, nothing, costs), ([], [best]))
                    self.assertEqual(self.assert_turns(kind, first, second, costs, nothing), ([], [best]))
            self.assertEqual(turns(Scheme(*kind), "abc", "cab", nothing, nothing),
                             ([], [plain_possible(kind, "abc", "cab")]))

    def test_counts_that_are_not_minimal(self):
        # Where gaps cost nothing, more of them are as good.
        self.assertEqual(turns(EXAMPLE, "ab", "ba", [5, 0, 1], [6, 0, 1]), ([], [[[0, 2, 2]]]))
        self.assertEqual(turns(EXAMPLE, "ab", "ba", [5, 1, 0], [6, 1, 0]), ([], [[[0, 2, 2], [0, 2, 4]]]))
        self.assertEqual(turns(EXAMPLE, "ab", "ba", [5, 0, 0], [6, 0, 0])[1],
                         [[[0, 2, 2], [0, 2, 4], [0, 3, 4], [0, 4, 4]]])
        self.assertEqual(turns(EXAMPLE, "ab", "ba", [5, 0, 0], [6, 0, 1])[1], [[[0, 2, 2]]])

    def test_what_is_best_at_an_end_only(self):
        # At the start both cost the same, and directly behind it one of them costs less.
        self.assertEqual(turns(SIMPLE, "a", "b", [2, 1], [1, 1]), ([], [[[1, 0]]]))
        self.assertEqual(turns(SIMPLE, "a", "b", [2, 1], [3, 1]), ([], [[[0, 2]]]))
        self.assertEqual(turns(SIMPLE, "a", "b", [1, 1], [2, 1]), ([], [[[1, 0]]]))
        self.assertEqual(turns(SIMPLE, "a", "b", [2, 1], [4, 2]), ([], [[[0, 2], [1, 0]]]))

    def test_costs_of_1000000(self):
        for kind in SCHEMES:
            many = plain_size(kind)
            for start, end in [([1000000] * many, [1] * many), ([1000000] + [1] * (many - 1), [1] + [1000000] * (many - 1)),
                               ([1000000] + [0] * (many - 1), [0] + [1000000] * (many - 1)),
                               ([999999] + [1000000] * (many - 1), [1000000] + [333333] * (many - 1))]:
                for first, second in [("ab", "ba"), ("abc", "cab"), ("abdb", "cad")]:
                    self.assert_turns(kind, first, second, start, end)
        self.assertEqual(turns(SIMPLE, "a", "b", [1, 1000000], [1000000, 1])[0], [(1999999, 2999997)])

    def test_back_and_forth(self):
        for kind in SCHEMES:
            told = some_costs(plain_size(kind))
            for start, end in zip(told, told[3:]):
                found, pieces = turns(Scheme(*kind), "abcd", "dcba", start, end)
                back, others = turns(Scheme(*kind), "abcd", "dcba", end, start)
                self.assertEqual(back, [(d - n, d) for n, d in reversed(found)])
                self.assertEqual(others, pieces[::-1])

    def test_arguments_and_answers(self):
        start, end = [1, 5, 5], [5, 1, 1]
        told = turns(EXAMPLE, "abc", "cab", start, end)
        self.assertEqual((start, end), ([1, 5, 5], [5, 1, 1]))
        kept = deepcopy(told)
        told[0].append(7)
        told[1][0][0][0] = 99
        told[1].pop()
        self.assertEqual(turns(EXAMPLE, "abc", "cab", start, end), kept)


if __name__ == "__main__":
    unittest.main()
