"""What the promises of other files rest on: multiples and weights, and cones that get smaller."""

import unittest
from copy import deepcopy
from itertools import product
from random import Random

from rightfares.linear import multiples_for, rays_where, rays_within, units, weights_below
from tests.every import plain_combination, plain_inner, plain_rays


def drawn_vectors(draw, length, low, high):
    return [[draw.randint(low, high) for _ in range(length)] for _ in range(draw.randint(1, 7))]


def combined(vectors, numbers, length):
    """The sum of the vectors, each times its number."""
    return [sum(number * vector[k] for number, vector in zip(numbers, vectors)) for k in range(length)]


class TestMultiplesFor(unittest.TestCase):
    def test_drawn_vectors(self):
        draw = Random(31)
        for length in [1, 2, 3, 4]:
            for _ in range(150):
                vectors = drawn_vectors(draw, length, 0, 4)
                self.assert_multiples(vectors, [draw.randint(0, 5) for _ in range(length)])

    def assert_multiples(self, vectors, wanted):
        numbers = multiples_for(vectors, wanted)
        if numbers is None:
            self.assertFalse(plain_combination(vectors, wanted))
            return
        self.assertEqual(len(numbers), len(vectors))
        self.assertGreaterEqual(min(numbers), 0)
        self.assertLessEqual(len([number for number in numbers if number]), len(wanted))
        total = combined(vectors, numbers, len(wanted))
        # The sum is a multiple of what is wanted, by more than 0 where that is not 0 everywhere.
        for k, m in product(range(len(wanted)), repeat=2):
            self.assertEqual(total[k] * wanted[m], total[m] * wanted[k])
        self.assertEqual(any(total), any(wanted))

    def test_by_hand(self):
        self.assertEqual(multiples_for([[2, 0], [0, 3]], [1, 1]), [3, 2])
        self.assertEqual(multiples_for([[1, -1], [-1, 2]], [0, 1]), [1, 1])
        self.assertIsNone(multiples_for([[1, -1], [-1, 1]], [0, 1]))
        self.assertIsNone(multiples_for([], [0, 1]))
        self.assertEqual(multiples_for([], [0, 0]), [])


class TestWeightsBelow(unittest.TestCase):
    def test_just_one_of_both(self):
        draw = Random(32)
        for length in [1, 2, 3, 4]:
            found = 0
            for _ in range(150):
                vectors = drawn_vectors(draw, length, -3, 3)
                weights = weights_below(length, vectors)
                # Either there are weights, or positive numbers whose product with no vector is below 0.
                self.assertEqual(weights is None, plain_inner(plain_rays(length, vectors)) is not None, vectors)
                if weights is not None:
                    self.assert_below(vectors, weights, length)
                    found += 1
            self.assertTrue(20 <= found <= 149, found)

    def assert_below(self, vectors, weights, length):
        self.assertEqual(len(weights), len(vectors))
        self.assertGreaterEqual(min(weights), 0)
        self.assertLessEqual(len([weight for weight in weights if weight]), length)
        total = combined(vectors, weights, length)
        self.assertTrue(max(total) <= 0 and min(total) < 0, (vectors, weights))

    def test_by_hand(self):
        self.assertEqual(weights_below(2, [[-1, 0]]), [1])
        self.assertEqual(weights_below(2, [[2, -3], [-4, 1]])[0] > 0, True)
        self.assertIsNone(weights_below(2, [[1, -1], [-1, 1]]))
        self.assertIsNone(weights_below(2, [[0, 0]]))
        self.assertIsNone(weights_below(3, []))


class TestRaysWithin(unittest.TestCase):
    def test_one_after_the_other(self):
        draw = Random(33)
        for length in [2, 3, 4]:
            for _ in range(60):
                one, two = drawn_vectors(draw, length, -3, 3), drawn_vectors(draw, length, -3, 3)
                rays = rays_where(length, one)
                known = units(length) + one
                before = deepcopy((rays, known, two))
                self.assertEqual(rays_within(rays, known, two), plain_rays(length, one + two))
                self.assertEqual((rays, known, two), before)


if __name__ == "__main__":
    unittest.main()
