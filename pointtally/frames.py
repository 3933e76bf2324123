"""Terms over the letters of a grid, told over the letters of its points."""

from pointtally.grids import leading
from pointtally.terms import gates_of_grid, led_by_places, places_of_grid


class Frame:
    """Tells what stands over a grid's letters over the parameters of points instead."""

    def __init__(self, k, grid):
        self.k = k
        front = leading(grid, k)
        self.places = places_of_grid(front)
        self.gates = gates_of_grid(front)

    def led_rows(self, forms):
        """Return forms that are from 0 on where the given ones are."""
        return tuple([led_by_places(form, self.places, self.k)[1] for form in forms])

    def led_steps(self, steps):
        """Return steps with the same values."""
        told = []
        for n, form in steps:
            by, led = led_by_places(form, self.places, self.k)
            told.append((n * by, led))
        return told
