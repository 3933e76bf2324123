"""No function changes what it is handed, and equal calls return equal values that nobody can change."""

import copy
import unittest

from pointtally import (
    addings, alike, amounts, answers, books, claims, cones, corners, counting, countpapers, dilations, directions, edges, falling,
    formtexts, formulas, forms, fractions, grids, halls, halltallies, judging, leaves, listing, matrices, nearrows, nestruns, nests,
    nesttallies, onebyone, parts, periods, pieces, rays, series, sets, sheets, steppolys, summing, tallies, telescopes, trees,
)
from pointtally.desk import Desk
from tests.test_books import BOOK
from tests.test_claims import CLAIMS

FORMULA = ("some", ("and", ("row", (4, 2, -2)), ("not", ("divides", 3, (1, 7, 1))), ("or", ("some", ("row", (0, 1, 1, 1))))))
GRID = (((2, 0), (1, 3)), (1, 2))
INNER = (((2, 0), (0, 2)), (1, 0))
HALL = (1, 1, ((0, 0, 2), (9, 1, -3), (4, 2, 0)))
ROWS = ((0, 1, 0), (0, 0, 1), (4, -1, 0), (3, 0, -1), (9, -1, -1))
AMOUNT = ((5, 1), (0, -2, 3), 4)
SET = ((HALL, GRID), ((1, 1, ((3, 1, 1), (4, -1, -1), (5, 0, 1), (5, 0, -1))), grids.whole_grid(2)))
BOXED = ("and", ("row", (0, 0, 1)), ("row", (9, 1, -2)), ("or", ("not", ("divides", 3, (1, 7, 1))), ("some", ("and", *[
    ("row", form) for form in ((0, 0, 1, -3), (1, 0, -1, 3))]))))
PIECE = (((0, 2, ((0, -1, 2), (7, 1, 0), (5, 1, -3), (9, -1, 0)))), grids.whole_grid(2))
EMPTY = ((0, 1, ((-1, 3), (2, -3))), grids.whole_grid(1))
TRIANGLE = (1, 2, ((0, 0, 3, 0), (0, 0, 0, 1), (0, 1, -2, -5)))
LAM = directions.direction(2, edges.all_edges(TRIANGLE))
CONE = ((3, 1), (1, -4))
TREE = trees.tree_of(CONE)
APEX = (((1,), (0, 2), 3), ((-2,), (1,), 2))
PAPER = halltallies.hall_paper(TRIANGLE)
STEPS = (((3, (5, 7)), (2, (0, 1))), (((1, 2), (0, 1)), ((-2, 3), (2, 1))))
OTHER = (((3, (1, 1)), (1, (4, 0))), (((1, 1), (1, 1)),))
WEIGHT = (((1, 2), (0, 1, 2)), ((3, 1), (1, 0, 0)))
TALLY = ((((0, 1), (9, -1)), ((2, (1, 3)),), *STEPS), (((0, 1), (7, -1)), (), *OTHER))
BODY = ((0, 1, 0), (0, 0, 1), (1, -2, -3))
NEST = ("nest", 1, (("loop", ((0, 0),), ((-1, 1),), 2, (("if", ("or", ("divides", 3, (0, 1, 1)), ("row", (3, 0, -1))), (
    ("do", (("write", "a", ((0, 0, 1),)), ("read", "a", ((-2, 0, 1),)))),)),)),))
COUNTED = countpapers.counting_paper(1, 1, BOXED)
SHEET = sheets.answered(tuple(CLAIMS.values()))
OTHER_NEST = ("nest", 1, (("loop", ((0, 0),), ((0, 1),), 2, (("do", (("write", "a", ((0, 0, 1),)),)),)),))
LISTS = ([1, [2]], ["row", [0]], ("row", [0, 1]), ("and", ["or"]), (1, 1, [(0, 0, 0)]), ([(1,)], [0]), ("point", [(0, 1)]),
         ("factors", [0]), ("bounds", [((1, [0]), (1, [0]))]), {"a": [1]}, ("least", (0, 1), [], 1, []))
CALLS = (
    (forms.form_value, (1, 2, 3), (4, 5)), (forms.form_sum, (1, 2), (3, 4)), (forms.form_times, (1, 2), 3),
    (forms.put_in, (1, 2), ((3, 4),), 1), (forms.lowered, (5, 4, 6)), (formulas.formula_put_in, FORMULA, ((1, 2),), 1),
    (formulas.lettered, FORMULA, 1, (2,), 3), (formulas.plain, FORMULA), (formulas.denied, FORMULA),
    (formulas.lowered_formula, FORMULA), (formulas.sizes, FORMULA), (formtexts.formula_text, FORMULA, ("i",)),
    (formtexts.read_formula, "some k (k > 2 i and 3 divides (k)) or i = 4", ("i",)),
    (formtexts.room_text, 0, 1, ("i",), FORMULA), (formtexts.read_room, "for n count i where i < n"),
    (halls.conditions, HALL), (halls.in_hall, HALL, (1,), (2,)), (halls.hall_at, HALL, (3,)),
    (listing.holds_within, FORMULA, (3,), 4), (listing.listed, 0, 1, FORMULA, (), -3, 3, 4),
    (fractions.fraction, 6, -4), (fractions.plus, (1, 2), (1, 3)), (fractions.floor_of, (-1, 2)),
    (matrices.determinant, ((1, 2), (3, 4))), (matrices.adjoint, ((1, 2), (3, 4))), (matrices.rank, ((1, 2), (3, 4), (5, 6))),
    (matrices.times_row, (1, 2), ((1, 2), (3, 4))), (matrices.times_column, ((1, 2), (3, 4)), (1, 2)),
    (matrices.times_table, ((1, 2), (3, 4)), ((1, 2), (3, 4))), (matrices.solved, ((1, 2), (3, 4)), (5, 6)),
    (matrices.parts_of, ((1, 2), (3, 4)), (5, 6)), (grids.need_grid, GRID), (grids.size_of, GRID),
    (grids.point_at, GRID, (4, -5)), (grids.place_in, GRID, (3, 0)), (grids.form_on, GRID, (1, 2, 3)),
    (grids.grid_of, ((4, 2), (6, 6), (0, 3)), (7, 8)), (grids.grid_within, GRID, INNER), (grids.leading, GRID, 1),
    (grids.place_map, GRID, grids.grid_within(GRID, INNER)), (grids.divided_grid, 2, 6, (2, 4, 3)), (grids.meet, GRID, INNER),
    (grids.others, GRID), (nearrows.index_of, ((2, 1), (1, 3))), (nearrows.near_row, ((2, 1), (1, 3))),
    (amounts.compare_at, AMOUNT, AMOUNT, (2,)), (amounts.above_row, AMOUNT), (amounts.round_up, AMOUNT),
    (amounts.round_down, AMOUNT), (amounts.amount_sum, AMOUNT, ((1, 1), (), 6)), (amounts.amount_times, AMOUNT, -3),
    (addings.summed, 2, ROWS, (1, 2, 3, 4, 5)), (addings.settled, 2, ROWS), (addings.least, 2, ROWS, (1, -2, 1)),
    (addings.least, 2, ROWS[:2], (1, -2, 1)), (addings.settled, 2, ROWS + ((-1, -1, 0),)), (addings.follows, 2, ROWS, (8, -1, -1)),
    (addings.bare, 2, ROWS), (addings.flat, 2, ROWS), (addings.inside, 2, ROWS), (addings.inside, 2, ROWS + ((0, -1, 0),)),
    (rays.ray_or_bounds, 0, 2, ROWS), (rays.ray_or_bounds, 0, 2, ROWS[1:3]), (rays.box, 1, 1, ((0, 0, 2), (9, 1, -3)), (2,)),
    (pieces.is_in, ((HALL, GRID),), (3, 0)), (pieces.on_grid, (HALL, GRID), INNER),
    (falling.children, PIECE), (falling.empty_paper, EMPTY), (falling.is_empty_paper, EMPTY, falling.empty_paper(EMPTY)),
    (sets.common, SET, SET[1:]), (sets.taken_out, SET, SET[:1]), (sets.joined, SET, SET), (sets.fallen, SET, 1), (sets.is_apart, SET),
    (sets.pieces_of, 1, 1, BOXED), (sets.plain_pieces, 1, 1, BOXED), (sets.formula_paper, 1, 1, BOXED),
    (sets.formula_paper, 0, 1, ("and", ("row", (-1, 3)), ("row", (2, -3)))), (sets.has_point, SET), (sets.first_point, SET),
    (sets.is_within, SET, SET[1:]), (sets.is_same, SET, SET[::-1]), (sets.parting, SET, SET[1:]), (sets.is_finite_set, SET),
    (sets.need_finite_set, SET[1:]), (sets.points_at, SET[1:], (1,), 50),
    (corners.bases, TRIANGLE), (corners.corner, TRIANGLE, (0, 2)), (corners.feasible_rows, TRIANGLE, (0, 2)),
    (corners.is_feasible, TRIANGLE, (0, 2), (5,)), (corners.corners_at, TRIANGLE, (5,)), (edges.edges, TRIANGLE, (1, 2)),
    (edges.all_edges, TRIANGLE), (directions.direction, 2, CONE), (directions.uphill, (1, 3), CONE),
    (directions.cover, TRIANGLE, (9,), (1, 1), LAM), (directions.highest, TRIANGLE, (9,), LAM),
    (directions.uphill_counts, TRIANGLE, (9,), LAM), (cones.replaced, CONE, 1, (4, 4)), (cones.holds, CONE, (2, 9), APEX, (3, 1)),
    (trees.tree_of, CONE), (trees.leaves, CONE, TREE), (trees.tree_rays, CONE, TREE),
    (trees.leaves_hold, CONE, TREE, directions.direction(2, trees.tree_rays(CONE, TREE)), APEX, (3, 1)),
    (halltallies.hall_paper, TRIANGLE), (halltallies.leaf_parts, TRIANGLE, PAPER), (halltallies.tally_by, TRIANGLE, PAPER, WEIGHT),
    (halltallies.hall_tally, TRIANGLE), (halltallies.hall_tally, TRIANGLE, WEIGHT), (halltallies.hall_count, TRIANGLE, (10 ** 40,)),
    (series.at_one, (3, 1, 2)), (series.constant_of, (3, 1)), (series.binoms, (((1, 2), (1,)), ((3, 1), (4,)))),
    (series.of_binoms, ((1, 2), (0, 1), (5, 3))), (steppolys.value_at, 1, STEPS, (7,)), (steppolys.normal, 1, STEPS),
    (steppolys.plus, 1, STEPS, OTHER), (steppolys.times, 1, STEPS, OTHER), (steppolys.scaled, 1, STEPS, (2, 3)),
    (steppolys.raised, 1, STEPS, 2), (steppolys.put_in, 1, 2, STEPS, ((1, 2, 3),)), (steppolys.on_class, 1, STEPS, 6, (5,)),
    (periods.alike_steps, 1, STEPS, OTHER), (periods.least_period, 1, STEPS), (leaves.number_poly, (3, 1), 1, (((1, 2), (1,)),)),
    (leaves.leaf_sum, 1, ((1, 0), (2, 1)), (1, 5), WEIGHT), (tallies.value, TALLY, (7,)), (tallies.added, TALLY, TALLY),
    (tallies.less, TALLY, TALLY), (tallies.times, TALLY, TALLY), (tallies.scaled, TALLY, (2, 3)), (tallies.constant, (2, 3)),
    (tallies.kept, TALLY, ((5, -1),), ((3, (0, 1)),)), (tallies.put_in_tally, TALLY, ((1, 2, 3),), 2), (tallies.tidied, TALLY),
    (counting.is_finite, 1, 1, BOXED), (counting.tally_of, 1, 1, BOXED), (counting.weighted_of, 1, 1, BOXED, (((1, 2), (1, 1)),)),
    (counting.count_at, 1, 1, BOXED, (10 ** 40,)), (summing.summed, TALLY, 1, 1),
    (alike.alike, TALLY, TALLY[:1], 1), (alike.alike, TALLY, TALLY[::-1], 1), (alike.counts_alike, 1, 1, BOXED, ("and", BOXED, ("row", (7, -1, 0)))),
    (parts.parts, TALLY, 1), (dilations.dilation, 2, BODY), (dilations.inner_dilation, 2, BODY),
    (dilations.dilation_value, dilations.dilation(2, BODY), -7), (telescopes.power_sums, 4), (telescopes.sum_between, WEIGHT, (1, 2, 0), (3, 0, 4)),
    (telescopes.moved_poly, (((1, 2), (1, 2)),), GRID), (telescopes.poly_at, WEIGHT, (1, 2, 3)), (onebyone.tally_by_sums, 1, 1, BOXED),
    (onebyone.tally_by_sums, 1, 1, BOXED, (((1, 2), (1, 1)),)), (onebyone.sums_of_piece, (HALL, GRID), (((1, 2), (1, 1)),)),
    (onebyone.count_by_sums, 1, 1, BOXED, (10 ** 40,)), (nests.check_nest, NEST), (nestruns.run, NEST, (9,)), (nestruns.touches, NEST, (9,)),
    (nestruns.first_meet, NEST, "a", 0, 0, ("write", "read"), (9,)), (nestruns.peak, NEST, "a", 0, (9,)),
    (nesttallies.rounds_formula, NEST, 0), (nesttallies.rounds_tally, NEST, 0), (nesttallies.cost_tally, NEST, (3,)),
    (nesttallies.cells_formula, NEST, "a", "any"), (nesttallies.cells_tally, NEST, "a", "any"), (nesttallies.lines_tally, NEST, "a", "any", 3),
    (nesttallies.both_tally, NEST, "a", 0, 0), (nesttallies.meets_formula, NEST, "a", 0, 0, ("any", "write")),
    (nesttallies.meets_tally, NEST, "a", 0, 0, ("any", "write")), (nesttallies.can_turn, NEST, 0), (nesttallies.live_tally, NEST, "a", 0),
    (nesttallies.touch_alike, NEST, OTHER_NEST, "a", "any"), (nesttallies.touch_parting, NEST, OTHER_NEST, "a", "any"),
    (countpapers.counting_paper, 1, 1, BOXED), (countpapers.counting_breach, 1, 1, BOXED, COUNTED), (countpapers.tally_from, 1, 1, BOXED, COUNTED),
    (countpapers.tally_from, 1, 1, BOXED, COUNTED, (((1, 2), (1, 1)),)), (claims.opposite, SHEET[0][0]), (claims.size_of, SHEET),
    *[(answers.answer, claim) for claim in CLAIMS.values()], *[(judging.judge, saying, paper) for saying, paper in SHEET],
    (sheets.answered, tuple(CLAIMS.values())), (sheets.check_sheet, SHEET), (books.need_book, BOOK), (books.hangs_on, BOOK, "pair"),
    (books.written_out, BOOK, "pair"),
)
ANY_VALUE = (
    (forms.is_form, (), (1,)), (formulas.formula_breach, (), (1,)), (halls.hall_breach, (), ()), (fractions.is_fraction, (), ()),
    (nearrows.is_near_row, (((2, 1), (1, 3)),), ()), (addings.is_settled, (1, ((0, 1),)), ()),
    (addings.is_least, (1, ((0, 1),), (0, 2)), ()), (addings.is_inside, (1, ((0, 1),)), ()),
    (rays.is_ray_or_bounds, (0, 1, ((0, 1),)), ()), (falling.is_empty_paper, (EMPTY,), ()),
    (sets.is_formula_paper, (0, 1, ("row", (-1, 0))), ()), (directions.is_direction, (), (2, CONE)), (trees.is_tree, (CONE,), ()),
    (halltallies.is_hall_paper, (TRIANGLE,), ()), (steppolys.is_plain, (2,), ()), (steppolys.is_step_poly, (1,), ()),
    (tallies.tally_breach, (), (1,)), (nests.nest_breach, (), ()), (countpapers.counting_breach, (1, 1, BOXED), ()), (claims.claim_breach, (), ()),
    (claims.saying_breach, (), ()), (judging.judge, (), (COUNTED,)), (judging.judge, (SHEET[3][0],), ()), (sheets.sheet_breach, (), ()),
    (books.book_breach, (), ()),
)


def is_fixed(value):
    """Tell whether a value holds tuples, integers, strings, True, False and None alone."""
    if type(value) is tuple:
        return all(is_fixed(entry) for entry in value)
    return type(value) in (int, str, bool, type(None))


class Unchanged(unittest.TestCase):
    def test_calls(self):
        for function, *handed in CALLS:
            with self.subTest(function.__name__):
                before = copy.deepcopy(handed)
                told = function(*handed)
                self.assertEqual(repr(handed), repr(before))
                self.assertTrue(is_fixed(told), told)
                self.assertEqual(repr(function(*copy.deepcopy(before))), repr(told))

    def test_any_value(self):
        for function, ahead, behind in ANY_VALUE:
            for value in LISTS:
                with self.subTest(function=function.__name__, value=value):
                    before = repr(value)
                    function(*ahead, value, *behind)
                    self.assertEqual(repr(value), before)

    def test_desk(self):
        book, deed = copy.deepcopy(BOOK), ("write", "a", (0, 1, ("and", ("row", (0, 1)), ("row", (4, -1)))))
        desk = Desk(book)
        for value in (*LISTS, ["write", "a", deed[2]], ("write", "a", list(deed[2])), ("write", "a", (0, 1, ["or"]))):
            before = repr(value)
            for call in (desk.do, desk.tally, desk.kept, Desk):
                self.assertRaises(ValueError, call, value)
            self.assertEqual(repr(value), before)
        desk.do(deed)
        told = [desk.book, desk.deeds, desk.tally("a"), desk.made]
        self.assertTrue(is_fixed(tuple(told)))
        self.assertEqual([desk.book, desk.deeds, desk.tally("a"), desk.made], told)
        self.assertEqual((book, deed), (BOOK, desk.undo()))
        self.assertEqual(told[0], (("a", deed[2]), *BOOK))

    def test_every_function_is_called(self):
        from tests.test_interface import FUNCTIONS
        called = {function.__name__ for function, *_ in (*CALLS, *ANY_VALUE)}
        told = {line.split("(")[0] for text in FUNCTIONS.values() for line in text.replace(") ", ")\n").split("\n")}
        self.assertEqual(told - called, {"need_form", "need_formula", "need_hall", "minus", "over", "compare", "whole_grid", "need_tally"})


if __name__ == "__main__":
    unittest.main()
