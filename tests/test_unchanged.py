"""No function changes what it is handed, and equal calls return equal values that nobody can change."""

import copy
import unittest

from pointtally import (
    addings, amounts, formtexts, formulas, forms, fractions, grids, halls, listing, matrices, nearrows, pieces, rays,
)

FORMULA = ("some", ("and", ("row", (4, 2, -2)), ("not", ("divides", 3, (1, 7, 1))), ("or", ("some", ("row", (0, 1, 1, 1))))))
GRID = (((2, 0), (1, 3)), (1, 2))
INNER = (((2, 0), (0, 2)), (1, 0))
HALL = (1, 1, ((0, 0, 2), (9, 1, -3), (4, 2, 0)))
ROWS = ((0, 1, 0), (0, 0, 1), (4, -1, 0), (3, 0, -1), (9, -1, -1))
AMOUNT = ((5, 1), (0, -2, 3), 4)
LISTS = ([1, [2]], ["row", [0]], ("row", [0, 1]), ("and", ["or"]), (1, 1, [(0, 0, 0)]), ([(1,)], [0]), ("point", [(0, 1)]),
         ("factors", [0]), ("bounds", [((1, [0]), (1, [0]))]), {"a": [1]}, ("least", (0, 1), [], 1, []))
CALLS = (
    (forms.form_value, (1, 2, 3), (4, 5)), (forms.form_sum, (1, 2), (3, 4)), (forms.form_times, (1, 2), 3),
    (forms.put_in, (1, 2), ((3, 4),), 1), (forms.lowered, (5, 4, 6)), (formulas.formula_put_in, FORMULA, ((1, 2),), 1),
    (formulas.lettered, FORMULA, 1, (2,), 3), (formulas.plain, FORMULA), (formulas.denied, FORMULA),
    (formulas.lowered_formula, FORMULA), (formulas.sizes, FORMULA), (formtexts.formula_text, FORMULA, ("i",)),
    (formtexts.read_formula, "some k (k > 2 i and 3 divides (k)) or i = 4", ("i",)),
    (formtexts.room_text, 0, 1, ("i",), FORMULA), (formtexts.read_room, "for n count i where i < n"),
    (halls.conditions, HALL), (halls.in_hall, HALL, (1,), (2,)), (halls.hall_at, HALL, (3,)),
    (listing.holds_within, FORMULA, (3,), 4), (listing.listed, 0, 1, FORMULA, (), -3, 3, 4),
    (fractions.fraction, 6, -4), (fractions.plus, (1, 2), (1, 3)), (fractions.floor_of, (-1, 2)),
    (matrices.determinant, ((1, 2), (3, 4))), (matrices.adjoint, ((1, 2), (3, 4))), (matrices.rank, ((1, 2), (3, 4), (5, 6))),
    (matrices.times_row, (1, 2), ((1, 2), (3, 4))), (matrices.times_column, ((1, 2), (3, 4)), (1, 2)),
    (matrices.times_table, ((1, 2), (3, 4)), ((1, 2), (3, 4))), (matrices.solved, ((1, 2), (3, 4)), (5, 6)),
    (matrices.parts_of, ((1, 2), (3, 4)), (5, 6)), (grids.need_grid, GRID), (grids.size_of, GRID),
    (grids.point_at, GRID, (4, -5)), (grids.place_in, GRID, (3, 0)), (grids.form_on, GRID, (1, 2, 3)),
    (grids.grid_of, ((4, 2), (6, 6), (0, 3)), (7, 8)), (grids.grid_within, GRID, INNER), (grids.leading, GRID, 1),
    (grids.place_map, GRID, grids.grid_within(GRID, INNER)), (grids.divided_grid, 2, 6, (2, 4, 3)), (grids.meet, GRID, INNER),
    (grids.others, GRID), (nearrows.index_of, ((2, 1), (1, 3))), (nearrows.near_row, ((2, 1), (1, 3))),
    (amounts.compare_at, AMOUNT, AMOUNT, (2,)), (amounts.above_row, AMOUNT), (amounts.round_up, AMOUNT),
    (amounts.round_down, AMOUNT), (amounts.amount_sum, AMOUNT, ((1, 1), (), 6)), (amounts.amount_times, AMOUNT, -3),
    (addings.summed, 2, ROWS, (1, 2, 3, 4, 5)), (addings.settled, 2, ROWS), (addings.least, 2, ROWS, (1, -2, 1)),
    (addings.least, 2, ROWS[:2], (1, -2, 1)), (addings.settled, 2, ROWS + ((-1, -1, 0),)), (addings.follows, 2, ROWS, (8, -1, -1)),
    (addings.bare, 2, ROWS), (addings.flat, 2, ROWS), (addings.inside, 2, ROWS), (addings.inside, 2, ROWS + ((0, -1, 0),)),
    (rays.ray_or_bounds, 0, 2, ROWS), (rays.ray_or_bounds, 0, 2, ROWS[1:3]), (rays.box, 1, 1, ((0, 0, 2), (9, 1, -3)), (2,)),
    (pieces.is_in, ((HALL, GRID),), (3, 0)), (pieces.on_grid, (HALL, GRID), INNER),
)
ANY_VALUE = (
    (forms.is_form, (), (1,)), (formulas.formula_breach, (), (1,)), (halls.hall_breach, (), ()), (fractions.is_fraction, (), ()),
    (nearrows.is_near_row, (((2, 1), (1, 3)),), ()), (addings.is_settled, (1, ((0, 1),)), ()),
    (addings.is_least, (1, ((0, 1),), (0, 2)), ()), (addings.is_inside, (1, ((0, 1),)), ()),
    (rays.is_ray_or_bounds, (0, 1, ((0, 1),)), ()),
)


def is_fixed(value):
    """Tell whether a value holds tuples, integers, strings, True, False and None alone."""
    if type(value) is tuple:
        return all(is_fixed(entry) for entry in value)
    return type(value) in (int, str, bool, type(None))


class Unchanged(unittest.TestCase):
    def test_calls(self):
        for function, *handed in CALLS:
            with self.subTest(function.__name__):
                before = copy.deepcopy(handed)
                told = function(*handed)
                self.assertEqual(repr(handed), repr(before))
                self.assertTrue(is_fixed(told), told)
                self.assertEqual(repr(function(*copy.deepcopy(before))), repr(told))

    def test_any_value(self):
        for function, ahead, behind in ANY_VALUE:
            for value in LISTS:
                with self.subTest(function=function.__name__, value=value):
                    before = repr(value)
                    function(*ahead, value, *behind)
                    self.assertEqual(repr(value), before)

    def test_every_function_is_called(self):
        from tests.test_interface import FUNCTIONS
        called = {function.__name__ for function, *_ in (*CALLS, *ANY_VALUE)}
        told = {line.split("(")[0] for text in FUNCTIONS.values() for line in text.replace(") ", ")\n").split("\n")}
        self.assertEqual(told - called, {"need_form", "need_formula", "need_hall", "minus", "times", "over", "compare", "whole_grid"})


if __name__ == "__main__":
    unittest.main()
