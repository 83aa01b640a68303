"""Fittings: examples that are added one by one and taken back, and the costs that explain them."""

from rightfares.cones import inner_costs, rays_of_examples
from rightfares.errors import RightfaresError
from rightfares.schemes import Scheme

MOST_EXAMPLES = 4


class Fitting:
    """A scheme and some examples, with the rays of their cone."""

    def __init__(self, scheme):
        # A scheme of its own, so that later changes to the one that was passed have no effect.
        self.scheme = Scheme(scheme.groups, scheme.gaps, scheme.sides)
        self.taken = []
        # The rays of the first examples, for each number of them from 0 on: so undo has nothing to work out.
        self.cones = [rays_of_examples(self.scheme, [])]

    def examples(self):
        """The list of the examples."""
        return list(self.taken)

    def rays(self):
        """The rays of the cone of the examples."""
        return [list(ray) for ray in self.cones[-1]]

    def costs(self):
        """The costs of the explanation of the examples; None if there is none."""
        return inner_costs(self.cones[-1])

    def is_refuted(self):
        """True if nothing explains the examples."""
        return self.costs() is None

    def add(self, alignment):
        """Adds an example and returns the costs behind it."""
        if len(self.taken) >= MOST_EXAMPLES:
            raise RightfaresError("too many examples")
        # Worked out before anything changes, so that what fails changes nothing.
        rays = rays_of_examples(self.scheme, self.taken + [alignment])
        self.taken.append(alignment)
        self.cones.append(rays)
        return self.costs()

    def undo(self):
        """Takes back the last example and returns True; False if there is none."""
        if not self.taken:
            return False
        self.taken.pop()
        self.cones.pop()
        return True

    def copy(self):
        """A fitting with the same scheme and examples that goes on on its own."""
        other = Fitting(self.scheme)
        other.taken = list(self.taken)
        other.cones = list(self.cones)
        return other
