import unittest
from copy import deepcopy
from itertools import product

from rightfares.examples import explanation
from rightfares.foretold import best_for_some, certain_for_all, possible_for_some
from rightfares.schemes import Scheme
from tests.every import (
    EXAMPLES,
    PAIRS,
    SCHEMES,
    coefficients,
    counted,
    drawn_examples,
    letters_of,
    matches,
    plain_best,
    plain_counts,
    plain_counts_of,
    plain_inequalities,
    plain_inner,
    plain_possible,
    plain_rays,
    plain_size,
)

KIND = ([], True, False)
EXAMPLE = Scheme(*KIND)
SIMPLE = Scheme([], False, False)
BOTH = [("ab-", "-ba"), ("ab", "ba")]
FOUR = [("ab-", "-ba"), ("ab", "ba"), ("abc", "a-c"), ("a-", "-b")]
REFUTED = [[("a-b", "-ba")], [("a-", "-b"), ("ab", "ba")], BOTH + [("-a", "a-")]]


def plain_foretold(kind, examples, first, second):
    """The counts that are best for some explaining costs, by all choices of inequalities for each possible counts."""
    given = plain_inequalities(kind, examples)
    return [counts for counts in plain_possible(kind, first, second)
            if plain_inner(plain_rays(plain_size(kind), given + coefficients(kind, counts, first, second)))]


def explaining(kind, examples, numbers):
    """All positive costs of these numbers for which each example is best."""
    for costs in product(numbers, repeat=plain_size(kind)):
        if all(rows in plain_best(kind, *letters_of(rows), costs)[1] for rows in examples):
            yield list(costs)


class TestForetold(unittest.TestCase):
    def assert_foretold(self, kind, examples, first, second):
        told = (kind, examples, first, second)
        wanted = plain_foretold(*told)
        self.assertEqual(best_for_some(Scheme(*kind), examples, first, second), wanted, told)
        pairs = [set(matches(alignment)) for alignment, counts in counted(kind, first, second) if counts in wanted]
        certain = sorted(set.intersection(*pairs)) if pairs else []
        possible = sorted(set().union(*pairs))
        self.assertEqual(certain_for_all(Scheme(*kind), examples, first, second), certain, told)
        self.assertEqual(possible_for_some(Scheme(*kind), examples, first, second), possible, told)

    def test_all_choices_of_inequalities(self):
        for kind in SCHEMES:
            if plain_size(kind) < 4:
                for examples in EXAMPLES:
                    for first, second in PAIRS[::3] + [("ba", "abc"), ("cab", "abcd")]:
                        self.assert_foretold(kind, examples, first, second)

    def test_four_counts(self):
        for kind in SCHEMES:
            if plain_size(kind) == 4:
                for examples in EXAMPLES[2::3]:
                    for first, second in [("ab", "ba"), ("abc", "cb")]:
                        self.assert_foretold(kind, examples, first, second)

    def test_drawn_examples(self):
        for kind in [([], False, False), ([], True, False), ([], False, True), (["ab"], False, False)]:
            for k, examples in enumerate(drawn_examples(17, kind, 30, 3)):
                self.assert_foretold(kind, examples, *PAIRS[k % len(PAIRS)])

    def test_so_for_all_explaining_costs(self):
        for kind in [([], False, False), ([], True, False), ([], False, True), (["ab"], True, False)]:
            for examples in EXAMPLES:
                for first, second in [("ab", "ba"), ("abc", "ca"), ("aab", "bba")]:
                    self.assert_so_for_all(kind, examples, first, second)

    def assert_so_for_all(self, kind, examples, first, second):
        scheme = Scheme(*kind)
        some = best_for_some(scheme, examples, first, second)
        certain = set(certain_for_all(scheme, examples, first, second))
        possible = set(possible_for_some(scheme, examples, first, second))
        self.assertEqual(bool(some), explanation(scheme, examples) is not None)
        for costs in explaining(kind, examples, [1, 2, 3, 5]):
            for alignment in plain_best(kind, first, second, costs)[1]:
                self.assertIn(plain_counts(*kind, alignment), some)
                self.assertTrue(certain <= set(matches(alignment)) <= possible)

    def test_by_hand(self):
        # Different letters cost at most as much as two gaps.
        self.assertEqual(best_for_some(SIMPLE, [("a", "b")], "ab", "ba"), [[0, 2], [2, 0]])
        self.assertEqual(certain_for_all(SIMPLE, [("a", "b")], "ab", "ba"), [])
        self.assertEqual(possible_for_some(SIMPLE, [("a", "b")], "ab", "ba"), [(0, 0), (0, 1), (1, 0), (1, 1)])
        # They cost at least so much: then they stand together only where that costs just as much.
        self.assertEqual(best_for_some(SIMPLE, [("a-", "-b")], "ab", "ba"), [[0, 2]])
        self.assertEqual(possible_for_some(SIMPLE, [("a-", "-b")], "ab", "ba"), [(0, 1), (1, 0)])
        self.assertEqual(certain_for_all(SIMPLE, [("a-", "-b")], "abc", "bac"), [(2, 2)])
        self.assertEqual(best_for_some(SIMPLE, [("a-", "-b")], "c", "d"), [[0, 2], [1, 0]])
        self.assertEqual(possible_for_some(SIMPLE, [("a-", "-b")], "c", "d"), [(0, 0)])
        self.assertEqual(certain_for_all(SIMPLE, [("a-", "-b")], "c", "d"), [])
        self.assertEqual(certain_for_all(SIMPLE, [("ab", "ba")], "c", "d"), [(0, 0)])
        self.assertEqual(best_for_some(SIMPLE, [("ab", "ba")], "c", "d"), [[1, 0]])

    def test_the_sequences_of_an_example(self):
        for kind in SCHEMES:
            scheme = Scheme(*kind)
            for examples in EXAMPLES:
                for rows in examples:
                    some = best_for_some(scheme, examples, *letters_of(rows))
                    if explanation(scheme, examples) is None:
                        self.assertEqual(some, [])
                    else:
                        self.assertIn(plain_counts_of(kind, rows), some)
                        possible = possible_for_some(scheme, examples, *letters_of(rows))
                        self.assertTrue(set(matches(rows)) <= set(possible))
        self.assertEqual(best_for_some(EXAMPLE, BOTH, "ab", "ba"), [[0, 2, 2], [2, 0, 0]])
        self.assertEqual(certain_for_all(EXAMPLE, BOTH, "ab", "ba"), [])
        self.assertEqual(possible_for_some(EXAMPLE, BOTH, "ab", "ba"), [(0, 0), (0, 1), (1, 0), (1, 1)])

    def test_empty_sequences(self):
        for kind in SCHEMES:
            scheme = Scheme(*kind)
            self.assertEqual(best_for_some(scheme, [("a", "b")], "", ""), [[0] * plain_size(kind)])
            for first, second in [("", ""), ("abc", ""), ("", "abcdef")]:
                self.assertEqual(best_for_some(scheme, [("a", "b")], first, second),
                                 [plain_counts(*kind, (first + "-" * len(second), "-" * len(first) + second))])
                self.assertEqual(certain_for_all(scheme, [("a", "b")], first, second), [])
                self.assertEqual(possible_for_some(scheme, [("a", "b")], first, second), [])
        self.assertEqual(best_for_some(EXAMPLE, [("", "")], "a", "b"), [[0, 2, 2], [1, 0, 0]])

    def test_equal_sequences(self):
        for kind in SCHEMES:
            scheme = Scheme(*kind)
            for letters in ["a", "ab", "aaa", "abcabd", "ffffff"]:
                diagonal = [(k, k) for k in range(len(letters))]
                self.assertEqual(best_for_some(scheme, [("a", "b")], letters, letters), [[0] * plain_size(kind)])
                self.assertEqual(certain_for_all(scheme, [("a", "b")], letters, letters), diagonal)
                self.assertEqual(possible_for_some(scheme, [("a", "b")], letters, letters), diagonal)

    def test_what_nothing_explains(self):
        for examples in REFUTED:
            for first, second in PAIRS + [("abcdef", "abcdef"), ("abcdef", "fedcba")]:
                self.assertEqual(best_for_some(EXAMPLE, examples, first, second), [])
                self.assertEqual(certain_for_all(EXAMPLE, examples, first, second), [])
                self.assertEqual(possible_for_some(EXAMPLE, examples, first, second), [])

    def test_forms(self):
        some = best_for_some(EXAMPLE, BOTH, "abdb", "cad")
        self.assertEqual(some, sorted(some))
        self.assertTrue(all(type(counts) is list for counts in some))
        for pairs in [certain_for_all(EXAMPLE, BOTH, "abdb", "abd"), possible_for_some(EXAMPLE, BOTH, "abdb", "cad")]:
            self.assertTrue(pairs)
            self.assertEqual(pairs, sorted(pairs))
            self.assertTrue(all(type(pair) is tuple for pair in pairs))

    def test_arguments_and_answers(self):
        for function in [best_for_some, certain_for_all, possible_for_some]:
            examples = list(FOUR[:3])
            told = function(EXAMPLE, examples, "abc", "acb")
            self.assertEqual(examples, FOUR[:3])
            kept = deepcopy(told)
            if told and isinstance(told[0], list):
                told[0][0] = 77
            told.append(None)
            self.assertEqual(function(EXAMPLE, examples, "abc", "acb"), kept)


if __name__ == "__main__":
    unittest.main()
