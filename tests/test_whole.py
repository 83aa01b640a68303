"""What holds of the whole program: points 2, 16, 20 and 21, and that no answer takes long."""

import unittest
from copy import deepcopy
from random import Random
from time import perf_counter

from rightfares.alignments import sequences_of
from rightfares.best import best_at, count_best, index_of, least_cost
from rightfares.cones import inner_costs, is_combination, rays_of_counts, rays_of_examples
from rightfares.counted import count_with, first_with, minimal_counts, possible_counts
from rightfares.examples import explanation, is_explanation, is_refutation, largest_explained, refutation
from rightfares.fittings import Fitting
from rightfares.foretold import best_for_some, certain_for_all, possible_for_some
from rightfares.lines import turns
from rightfares.schemes import Scheme, cost_of, counts_of, size
from rightfares.tables import bound_of, is_right, table_of
from tests.every import (
    SCHEMES,
    changed,
    counted,
    drawn_examples,
    every_alignment,
    letters_of,
    places,
    plain_best,
    plain_refutes,
    plain_size,
)

EXAMPLE = Scheme([], True, False)
# Nothing within the bounds should come near to it, on a machine of any kind.
MOST_SECONDS = 5


def drawn_sequence(draw, letters, most):
    return "".join(draw.choice(letters) for _ in range(draw.randint(most - 1, most)))


class TestExample(unittest.TestCase):
    """Point 21, from its first word to its last."""

    def test_counts(self):
        self.assertEqual(counts_of(EXAMPLE, ("ab-", "-ba")), [0, 2, 2])
        self.assertEqual(counts_of(EXAMPLE, ("ab", "ba")), [2, 0, 0])
        self.assertEqual(possible_counts(EXAMPLE, "ab", "ba"),
                         [[0, 2, 2], [0, 2, 4], [0, 3, 4], [0, 4, 4], [1, 2, 2], [2, 0, 0]])
        self.assertEqual(minimal_counts(EXAMPLE, "ab", "ba"), [[0, 2, 2], [2, 0, 0]])

    def test_best(self):
        best = [best_at(EXAMPLE, "ab", "ba", [2, 1, 1], k) for k in range(count_best(EXAMPLE, "ab", "ba", [2, 1, 1]))]
        self.assertEqual(best, [("ab", "ba"), ("ab-", "-ba"), ("-ab", "ba-")])
        self.assertEqual([cost_of(EXAMPLE, alignment, [2, 1, 1]) for alignment in best], [4, 4, 4])

    def test_cones(self):
        self.assertEqual(rays_of_counts(EXAMPLE, "ab", "ba", [2, 0, 0]), [[0, 0, 1], [0, 1, 0], [1, 0, 1], [1, 1, 0]])
        examples = [("ab-", "-ba"), ("ab", "ba")]
        self.assertEqual(rays_of_examples(EXAMPLE, examples), [[1, 0, 1], [1, 1, 0]])
        self.assertEqual(explanation(EXAMPLE, examples)[0], [2, 1, 1])

    def test_refutation(self):
        self.assertEqual(counts_of(EXAMPLE, ("a-b", "-ba")), [1, 2, 2])
        self.assertTrue(is_refutation(EXAMPLE, [("a-b", "-ba")], [(0, ("ab-", "-ba"), 1)]))
        self.assertIsNone(explanation(EXAMPLE, [("a-b", "-ba")]))


class TestJustOneOfBoth(unittest.TestCase):
    def assert_one(self, kind, examples):
        scheme = Scheme(*kind)
        told, rivals = explanation(scheme, examples), refutation(scheme, examples)
        self.assertNotEqual(told is None, rivals is None, examples)
        if told is None:
            self.assertIs(is_refutation(scheme, examples, rivals), True)
            self.assertLessEqual(len(rivals), size(scheme))
            self.assertTrue(plain_refutes(kind, examples, rivals))
        else:
            self.assertIs(is_explanation(scheme, examples, told), True)
            for rows in examples:
                self.assertIn(rows, plain_best(kind, *letters_of(rows), told[0])[1])
        self.assertEqual(largest_explained(scheme, examples) == list(range(len(examples))), rivals is None)
        return rivals is None

    def test_drawn_examples(self):
        for kind in SCHEMES:
            explained = sum(self.assert_one(kind, examples) for examples in drawn_examples(21, kind, 60, 4))
            self.assertTrue(10 <= explained <= 50, explained)

    def test_each_alignment_alone(self):
        for kind in SCHEMES:
            for first, second in [("", ""), ("ab", "ba"), ("ab", "ac"), ("aab", "ba")]:
                for alignment in every_alignment(first, second):
                    self.assert_one(kind, [alignment])

    def test_no_refutation_of_what_is_explained(self):
        draw = Random(22)
        for kind in SCHEMES:
            for examples in drawn_examples(23, kind, 30, 3):
                scheme = Scheme(*kind)
                rivals = [(e, draw.choice(every_alignment(*letters_of(examples[e]))), draw.randint(1, 9))
                          for e in [draw.randrange(len(examples)) for _ in range(draw.randint(1, 4))]]
                told = is_refutation(scheme, examples, rivals)
                self.assertIs(told, plain_refutes(kind, examples, rivals))
                if explanation(scheme, examples) is not None:
                    self.assertIs(told, False)


class TestTablesAndCones(unittest.TestCase):
    def test_right_tables_bound_all_alignments(self):
        draw = Random(24)
        for kind in SCHEMES:
            scheme = Scheme(*kind)
            for first, second in [("ab", "ba"), ("abc", "ca"), ("aab", "b")]:
                costs = [draw.randint(0, 5) for _ in range(size(scheme))]
                table = table_of(scheme, first, second, costs)
                least = least_cost(scheme, first, second, costs)
                self.assertEqual(least, plain_best(kind, first, second, costs)[0])
                for place in places(table):
                    other = changed(table, place, draw.randint(-3, 12))
                    if is_right(scheme, first, second, costs, other):
                        self.assertLessEqual(bound_of(other), least)

    def test_each_bound_up_to_the_least_cost(self):
        for kind in SCHEMES:
            scheme = Scheme(*kind)
            costs = [3, 2, 1, 2][:size(scheme)]
            table = table_of(scheme, "abc", "cab", costs)
            least = least_cost(scheme, "abc", "cab", costs)
            for bound in range(-2, least + 2):
                lower = changed(table, (3, 3, 0), bound)
                self.assertIs(is_right(scheme, "abc", "cab", costs, lower), bound <= table[3][3][0])
                self.assertEqual(bound_of(lower), min(bound, least))

    def test_inner_costs_are_in_the_cone(self):
        for kind in SCHEMES:
            for examples in drawn_examples(25, kind, 15, 4):
                rays = rays_of_examples(Scheme(*kind), examples)
                for k, ray in enumerate(rays):
                    self.assertFalse(is_combination(rays[:k] + rays[k + 1:], ray))
                told = explanation(Scheme(*kind), examples)
                self.assertEqual(inner_costs(rays) if rays else None, None if told is None else told[0])
                self.assertTrue(told is None or is_combination(rays, told[0]))


class TestArguments(unittest.TestCase):
    def test_stay_as_they_are(self):
        scheme = Scheme(["ab", "cd"], True, False)
        for examples in [[("abc", "bca"), ("ab-", "-bd")], [("a-b", "-ba"), ("c-", "-a")]]:
            told = explanation(scheme, examples) or ([2, 1, 1, 1], [])
            rivals = refutation(scheme, examples) or [(0, examples[0], 2)]
            start, end = [1, 2, 3, 4], [4, 3, 2, 0]
            before = deepcopy((examples, told, rivals, start, end))
            is_explanation(scheme, examples, told)
            is_refutation(scheme, examples, rivals)
            largest_explained(scheme, examples)
            for function in [best_for_some, certain_for_all, possible_for_some]:
                function(scheme, examples, "abd", "cab")
            turns(scheme, "abd", "cab", start, end)
            fitting = Fitting(scheme)
            fitting.add(examples[0])
            fitting.copy().add(examples[1])
            self.assertEqual((examples, told, rivals, start, end), before)
            self.assertEqual((scheme.groups, scheme.gaps, scheme.sides), (["ab", "cd"], True, False))


class TestSixLetters(unittest.TestCase):
    """Sequences of 6 letters, four examples, four counts: right, and not slow."""

    def timed(self, function, *arguments):
        begun = perf_counter()
        told = function(*arguments)
        self.assertLess(perf_counter() - begun, MOST_SECONDS, function)
        return told

    def drawn_examples(self, draw, scheme, letters):
        """Four examples that are best for the same drawn costs, and one of minimal counts."""
        costs = [draw.randint(1, 9) for _ in range(size(scheme))]
        pairs = [(drawn_sequence(draw, letters, 6), drawn_sequence(draw, letters, 6)) for _ in range(5)]
        examples = [best_at(scheme, *pair, costs, 0) for pair in pairs[:4]]
        other = first_with(scheme, *pairs[4], draw.choice(minimal_counts(scheme, *pairs[4])))
        return costs, examples, other

    def test_four_examples(self):
        draw = Random(26)
        for kind in SCHEMES:
            scheme = Scheme(*kind)
            for letters in ["abcd", "abcdef", "ab"]:
                costs, examples, other = self.drawn_examples(draw, scheme, letters)
                self.assert_explained(kind, examples, costs)
                self.assert_just_one(scheme, examples[:3] + [other])
                self.assert_foretold(kind, examples, costs, letters, draw)

    def assert_explained(self, kind, examples, costs):
        scheme = Scheme(*kind)
        told = self.timed(explanation, scheme, examples)
        self.assertTrue(self.timed(is_explanation, scheme, examples, told))
        self.assertIsNone(self.timed(refutation, scheme, examples))
        self.assertEqual(self.timed(largest_explained, scheme, examples), [0, 1, 2, 3])
        self.assertTrue(is_combination(self.timed(rays_of_examples, scheme, examples), costs))
        for example in examples:
            self.assertIsNotNone(self.timed(index_of, scheme, example, told[0]))

    def assert_just_one(self, scheme, examples):
        told, rivals = self.timed(explanation, scheme, examples), self.timed(refutation, scheme, examples)
        self.assertNotEqual(told is None, rivals is None)
        if rivals is not None:
            self.assertTrue(self.timed(is_refutation, scheme, examples, rivals))
            self.assertLessEqual(len(rivals), size(scheme))
        fitting = Fitting(scheme)
        for example in examples:
            self.timed(fitting.add, example)
        self.assertIs(fitting.is_refuted(), told is None)

    def assert_foretold(self, kind, examples, costs, letters, draw):
        scheme = Scheme(*kind)
        first, second = drawn_sequence(draw, letters, 6), drawn_sequence(draw, letters, 6)
        some = self.timed(best_for_some, scheme, examples, first, second)
        certain = self.timed(certain_for_all, scheme, examples, first, second)
        possible = self.timed(possible_for_some, scheme, examples, first, second)
        self.assertTrue(set(certain) <= set(possible))
        for one in [costs, explanation(scheme, examples)[0]]:
            best = best_at(scheme, first, second, one, 0)
            self.assertEqual(sequences_of(best), (first, second))
            self.assertIn(counts_of(scheme, best), some)
        other = [draw.randint(0, 1000000) for _ in costs]
        found, pieces = self.timed(turns, scheme, first, second, costs, other)
        self.assertEqual(len(pieces), len(found) + 1)

    def test_counts_of_all_alignments(self):
        for kind in [(["ab"], True, False), ([], True, True)]:
            scheme = Scheme(*kind)
            wanted = {}
            for _, counts in counted(kind, "abcdef", "badcfe"):
                wanted[tuple(counts)] = wanted.get(tuple(counts), 0) + 1
            told = self.timed(possible_counts, scheme, "abcdef", "badcfe")
            self.assertEqual(told, [list(counts) for counts in sorted(wanted)])
            for counts in told[::20]:
                self.assertEqual(self.timed(count_with, scheme, "abcdef", "badcfe", counts), wanted[tuple(counts)])
            self.assertEqual(len(told[0]), plain_size(kind))


if __name__ == "__main__":
    unittest.main()
