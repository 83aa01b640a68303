import unittest

from rightfares.counted import count_with, first_with, minimal_counts, possible_counts
from rightfares.schemes import Scheme, counts_of
from tests.every import LONG_PAIRS, PAIRS, SCHEMES, counted, plain_minimal, plain_possible, plain_size

EXAMPLE = Scheme([], True, False)


class TestPossibleCounts(unittest.TestCase):
    def assert_counts(self, told, wanted):
        self.assertEqual(told, wanted)
        self.assertIsInstance(told, list)
        for counts in told:
            self.assertIsInstance(counts, list)
            for number in counts:
                self.assertIs(type(number), int)

    def test_the_example_of_point_21(self):
        self.assert_counts(possible_counts(EXAMPLE, "ab", "ba"),
                           [[0, 2, 2], [0, 2, 4], [0, 3, 4], [0, 4, 4], [1, 2, 2], [2, 0, 0]])
        self.assert_counts(minimal_counts(EXAMPLE, "ab", "ba"), [[0, 2, 2], [2, 0, 0]])

    def test_those_of_all_alignments(self):
        for kind in SCHEMES:
            for first, second in PAIRS:
                possible = plain_possible(kind, first, second)
                self.assert_counts(possible_counts(Scheme(*kind), first, second), possible)
                self.assert_counts(minimal_counts(Scheme(*kind), first, second), plain_minimal(possible))

    def test_six_letters(self):
        for kind in [([], False, False), ([], True, True), (["ab"], True, False), (["abc"], False, True)]:
            for first, second in LONG_PAIRS:
                possible = plain_possible(kind, first, second)
                self.assert_counts(possible_counts(Scheme(*kind), first, second), possible)
                self.assert_counts(minimal_counts(Scheme(*kind), first, second), plain_minimal(possible))

    def test_empty_sequences(self):
        for kind in SCHEMES:
            nothing = [[0] * plain_size(kind)]
            self.assert_counts(possible_counts(Scheme(*kind), "", ""), nothing)
            self.assert_counts(minimal_counts(Scheme(*kind), "", ""), nothing)
        self.assert_counts(possible_counts(Scheme([], True, True), "abc", ""), [[0, 1, 3, 0]])
        self.assert_counts(possible_counts(Scheme([], True, True), "", "abcdef"), [[0, 1, 0, 6]])

    def test_equal_sequences(self):
        for kind in SCHEMES:
            self.assert_counts(minimal_counts(Scheme(*kind), "abcabc", "abcabc"), [[0] * plain_size(kind)])

    def test_minimal_are_not_only_what_some_costs_make_best(self):
        # [1, 2, 3] is best for no costs but 0, yet nothing else is at most as great in all places.
        self.assert_counts(minimal_counts(EXAMPLE, "abdb", "cad"), [[0, 2, 7], [0, 3, 3], [1, 2, 3], [2, 1, 1]])

    def test_answers_belong_to_the_caller(self):
        for function in [possible_counts, minimal_counts]:
            told = function(EXAMPLE, "ab", "ba")
            kept = [list(counts) for counts in told]
            told[0][0] = 99
            told.append([1])
            self.assertEqual(function(EXAMPLE, "ab", "ba"), kept)


class TestCountWith(unittest.TestCase):
    def test_the_example(self):
        for counts, many in [([0, 2, 2], 2), ([0, 2, 4], 2), ([2, 0, 0], 1), ([1, 2, 2], 4)]:
            wanted = len([1 for _, own in counted(([], True, False), "ab", "ba") if own == counts])
            self.assertEqual(count_with(EXAMPLE, "ab", "ba", counts), wanted)
            self.assertEqual(many, wanted)

    def test_as_many_as_there_are(self):
        for kind in SCHEMES:
            for first, second in PAIRS:
                own = [counts for _, counts in counted(kind, first, second)]
                for counts in plain_possible(kind, first, second):
                    told = count_with(Scheme(*kind), first, second, counts)
                    self.assertEqual(told, own.count(counts))
                    self.assertIs(type(told), int)

    def test_not_possible(self):
        for first, second in [("ab", "ba"), ("", ""), ("abcdef", "fedcba"), ("a", "")]:
            for counts in [[1, 0, 0], [0, 0, 1], [0, 99, 0], [10 ** 20, 0, 0], [0, 1, 2], [7, 0, 0]]:
                self.assertEqual(count_with(EXAMPLE, first, second, counts), 0)
                self.assertIsNone(first_with(EXAMPLE, first, second, counts))

    def test_six_letters(self):
        for kind in SCHEMES:
            scheme = Scheme(*kind)
            for first, second in [("abcdef", "fedcba"), ("aabbcc", "abcabc")]:
                told = [count_with(scheme, first, second, counts) for counts in possible_counts(scheme, first, second)]
                self.assertEqual(sum(told), 8989)
                self.assertGreater(min(told), 0)

    def test_neighbours_of_possible_counts(self):
        for kind in SCHEMES:
            for first, second in PAIRS:
                own = [counts for _, counts in counted(kind, first, second)]
                for counts in plain_possible(kind, first, second)[:6]:
                    for place in range(len(counts)):
                        other = [number + int(k == place) for k, number in enumerate(counts)]
                        self.assertEqual(count_with(Scheme(*kind), first, second, other), own.count(other))


class TestFirstWith(unittest.TestCase):
    def test_the_first_of_them(self):
        for kind in SCHEMES:
            for first, second in PAIRS:
                told = counted(kind, first, second)
                for counts in plain_possible(kind, first, second):
                    wanted = [alignment for alignment, own in told if own == counts][0]
                    alignment = first_with(Scheme(*kind), first, second, counts)
                    self.assertEqual(alignment, wanted, counts)
                    self.assertIsInstance(alignment, tuple)

    def test_six_letters(self):
        for kind in [([], True, True), (["ab"], True, False)]:
            told = counted(kind, "aabbcc", "abcabc")
            for counts in plain_possible(kind, "aabbcc", "abcabc")[::7]:
                alignment = first_with(Scheme(*kind), "aabbcc", "abcabc", counts)
                self.assertEqual(alignment, [one for one, own in told if own == counts][0])
                self.assertEqual(counts_of(Scheme(*kind), alignment), counts)

    def test_the_example(self):
        self.assertEqual(first_with(EXAMPLE, "ab", "ba", [0, 2, 2]), ("ab-", "-ba"))
        self.assertEqual(first_with(EXAMPLE, "ab", "ba", [2, 0, 0]), ("ab", "ba"))
        self.assertEqual(first_with(EXAMPLE, "", "", [0, 0, 0]), ("", ""))
        self.assertIsNone(first_with(EXAMPLE, "", "", [0, 0, 1]))


class TestArguments(unittest.TestCase):
    def test_stay_as_they_are(self):
        counts = [0, 2, 2]
        count_with(EXAMPLE, "ab", "ba", counts)
        first_with(EXAMPLE, "ab", "ba", counts)
        possible_counts(EXAMPLE, "ab", "ba")
        minimal_counts(EXAMPLE, "ab", "ba")
        self.assertEqual(counts, [0, 2, 2])
        self.assertEqual((EXAMPLE.groups, EXAMPLE.gaps, EXAMPLE.sides), ([], True, False))


if __name__ == "__main__":
    unittest.main()
