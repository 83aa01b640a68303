import unittest
from copy import deepcopy

from rightfares.cones import rays_of_examples
from rightfares.errors import RightfaresError
from rightfares.examples import explanation, refutation
from rightfares.fittings import Fitting
from rightfares.schemes import Scheme
from tests.every import EXAMPLES, SCHEMES, drawn_examples, plain_costs, plain_example_rays, plain_size

EXAMPLE = Scheme([], True, False)
BOTH = [("ab-", "-ba"), ("ab", "ba")]
FOUR = BOTH + [("abc", "a-c"), ("a", "b")]
ALONE = ("a-b", "-ba")


def fitting_of(scheme, examples):
    """A fitting to which examples were added."""
    fitting = Fitting(scheme)
    for example in examples:
        fitting.add(example)
    return fitting


def state_of(fitting):
    """All that a fitting tells."""
    return deepcopy((fitting.examples(), fitting.rays(), fitting.costs(), fitting.is_refuted()))


class TestFitting(unittest.TestCase):
    def assert_state(self, fitting, kind, examples):
        """What a fitting with these examples tells, by all choices of inequalities."""
        self.assertEqual(fitting.examples(), examples)
        self.assertEqual(fitting.rays(), plain_example_rays(kind, examples))
        costs = plain_costs(kind, examples)
        self.assertEqual(fitting.costs(), costs)
        self.assertIs(fitting.is_refuted(), costs is None)

    def test_no_examples(self):
        for kind in SCHEMES:
            many = plain_size(kind)
            fitting = Fitting(Scheme(*kind))
            self.assertEqual(fitting.examples(), [])
            self.assertEqual(fitting.rays(), [[int(k == place) for k in range(many)] for place in reversed(range(many))])
            self.assertEqual(fitting.costs(), [1] * many)
            self.assertIs(fitting.is_refuted(), False)
            self.assertIs(fitting.undo(), False)
            self.assert_state(fitting, kind, [])

    def test_the_example_of_point_21(self):
        fitting = Fitting(EXAMPLE)
        fitting.add(("ab-", "-ba"))
        self.assertEqual(fitting.add(("ab", "ba")), [2, 1, 1])
        self.assertEqual(fitting.rays(), [[1, 0, 1], [1, 1, 0]])
        self.assertEqual(fitting.costs(), [2, 1, 1])
        self.assertEqual(fitting.examples(), BOTH)
        self.assertIsNone(fitting.add(ALONE))
        self.assertIs(fitting.is_refuted(), True)

    def test_one_by_one_and_back(self):
        for kind in SCHEMES:
            for examples in EXAMPLES[::3] + drawn_examples(20, kind, 6, 3):
                fitting = Fitting(Scheme(*kind))
                for many in range(len(examples)):
                    told = fitting.add(examples[many])
                    self.assertEqual(told, plain_costs(kind, examples[:many + 1]))
                    self.assert_state(fitting, kind, examples[:many + 1])
                for many in reversed(range(len(examples))):
                    self.assertIs(fitting.undo(), True)
                    self.assert_state(fitting, kind, examples[:many])
                self.assertIs(fitting.undo(), False)
                self.assert_state(fitting, kind, [])

    def test_explained_or_refuted(self):
        for kind in SCHEMES:
            scheme = Scheme(*kind)
            for examples in EXAMPLES:
                fitting = fitting_of(scheme, examples)
                told = explanation(scheme, examples)
                self.assertEqual(fitting.rays(), rays_of_examples(scheme, examples))
                self.assertEqual(fitting.costs(), None if told is None else told[0])
                self.assertIs(fitting.is_refuted(), refutation(scheme, examples) is not None)

    def test_a_fifth_example(self):
        for four in [FOUR, FOUR[:3] + [ALONE], [("", "")] * 4, [ALONE] * 4]:
            fitting = fitting_of(EXAMPLE, four)
            before = state_of(fitting)
            for example in [("a", "b"), ALONE, ("", ""), four[0]]:
                for _ in range(2):
                    with self.assertRaises(RightfaresError) as caught:
                        fitting.add(example)
                    self.assertEqual(caught.exception.reason, "too many examples")
                    self.assertEqual(state_of(fitting), before)
            self.assertIs(fitting.undo(), True)
            self.assertEqual(fitting.examples(), four[:3])
            fitting.add(four[3])
            self.assertEqual(state_of(fitting), before)

    def test_undo_and_add_again(self):
        fitting = fitting_of(EXAMPLE, BOTH)
        for _ in range(4):
            fitting.undo()
        self.assertEqual(state_of(fitting), state_of(Fitting(EXAMPLE)))
        self.assertEqual(fitting.add(("ab", "ba")), plain_costs(([], True, False), [("ab", "ba")]))
        self.assertEqual(fitting.examples(), [("ab", "ba")])

    def test_a_refuted_one_is_explained_again(self):
        fitting = fitting_of(EXAMPLE, BOTH)
        before = state_of(fitting)
        self.assertIsNone(fitting.add(ALONE))
        self.assertIsNone(fitting.costs())
        self.assertIs(fitting.is_refuted(), True)
        self.assertIsNone(fitting.add(("a", "a")))
        self.assertIs(fitting.undo(), True)
        self.assertIs(fitting.is_refuted(), True)
        self.assertIs(fitting.undo(), True)
        self.assertEqual(state_of(fitting), before)
        self.assertEqual(fitting.costs(), [2, 1, 1])

    def test_copies_go_on_apart(self):
        fitting = fitting_of(EXAMPLE, BOTH[:1])
        before = state_of(fitting)
        other = fitting.copy()
        self.assertIsInstance(other, Fitting)
        self.assertEqual(state_of(other), before)
        other.add(BOTH[1])
        self.assertEqual(state_of(fitting), before)
        self.assertEqual(other.costs(), [2, 1, 1])
        between = state_of(other)
        fitting.add(ALONE)
        self.assertIs(fitting.is_refuted(), True)
        self.assertEqual(state_of(other), between)
        fitting.undo()
        fitting.undo()
        self.assertEqual(state_of(fitting), state_of(Fitting(EXAMPLE)))
        self.assertEqual(state_of(other), between)
        self.assertEqual([other.undo(), other.undo(), other.undo()], [True, True, False])
        self.assertEqual(state_of(fitting), state_of(other))

    def test_copies_of_full_empty_and_refuted_ones(self):
        for examples in [[], FOUR, [ALONE], FOUR[:3] + [ALONE]]:
            fitting = fitting_of(EXAMPLE, examples)
            other = fitting.copy()
            self.assertEqual(state_of(other), state_of(fitting))
            if len(examples) == 4:
                with self.assertRaises(RightfaresError):
                    other.add(ALONE)
            self.assertIs(other.undo(), bool(examples))
            self.assertEqual(state_of(fitting), state_of(fitting_of(EXAMPLE, examples)))
            self.assertEqual(state_of(other), state_of(fitting_of(EXAMPLE, examples[:-1])))

    def test_lists_that_were_returned_and_changed(self):
        for examples in [[], BOTH, FOUR, [("", "")]]:
            fitting = fitting_of(EXAMPLE, examples)
            other = fitting.copy()
            before = state_of(fitting)
            fitting.examples().append(ALONE)
            fitting.examples().clear()
            fitting.rays()[0][0] = 77
            fitting.rays().clear()
            fitting.costs()[0] = 77
            self.assertEqual(state_of(fitting), before)
            self.assertEqual(state_of(other), before)
        fitting = Fitting(EXAMPLE)
        told = fitting.add(("a", "b"))
        before = state_of(fitting)
        told[0] = 77
        self.assertEqual(state_of(fitting), before)

    def test_the_scheme_that_was_passed_and_changed(self):
        for groups, changed in [(["ab"], ["cd"]), (["ab"], []), (["ab", "cd"], ["ab"])]:
            scheme = Scheme(groups, False, True)
            fitting = Fitting(scheme)
            scheme.groups.clear()
            scheme.groups.extend(changed)
            scheme.gaps, scheme.sides = True, False
            fitting.add(("abc", "bcc"))
            self.assert_state(fitting, (groups, False, True), [("abc", "bcc")])
            other = fitting.copy()
            other.add(("a-", "-b"))
            self.assert_state(other, (groups, False, True), [("abc", "bcc"), ("a-", "-b")])

    def test_the_same_examples_in_another_order(self):
        for kind in SCHEMES:
            for examples in EXAMPLES:
                one = fitting_of(Scheme(*kind), examples)
                two = fitting_of(Scheme(*kind), examples[::-1])
                self.assertEqual(two.examples(), one.examples()[::-1])
                self.assertEqual((one.rays(), one.costs(), one.is_refuted()), (two.rays(), two.costs(), two.is_refuted()))

    def test_the_same_example_twice(self):
        for example in BOTH + [ALONE, ("", "")]:
            once, twice = fitting_of(EXAMPLE, [example]), fitting_of(EXAMPLE, [example] * 2)
            self.assertEqual(once.rays(), twice.rays())
            self.assertEqual(once.costs(), twice.costs())
            self.assertEqual(twice.examples(), [example, example])


if __name__ == "__main__":
    unittest.main()
