import importlib
import inspect
import unittest

ERRORS = (
    "TallyError", "NotGrid", "NotBounded", "NotFit", "NoPoint", "ByNought", "Singular", "NotDeed", "NotDone", "NotUndone",
    "NotForm", "NotHall", "NotTally", "NotText", "NotSheet", "NotFormula", "NotPaper", "NotClaim", "NotNest", "NotNamed",
    "NotBook", "TooMany",
)
FUNCTIONS = {
    "forms": "is_form(value, m) need_form(value, m) form_value(form, t) form_sum(one, other) form_times(form, n) "
             "put_in(form, forms, n) lowered(form)",
    "formulas": "formula_breach(value, m) need_formula(value, m) formula_put_in(formula, forms, n) "
                "lettered(formula, m, places, n) plain(formula) denied(formula) lowered_formula(formula) sizes(formula)",
    "formtexts": "formula_text(formula, names) read_formula(text, names) room_text(k, d, names, formula) read_room(text)",
    "halls": "hall_breach(value) need_hall(value) conditions(hall) in_hall(hall, p, x) hall_at(hall, p)",
    "listing": "holds_within(formula, t, reach) listed(k, d, formula, p, low, high, reach)",
    "fractions": "fraction(a, b) plus(f, g) minus(f, g) times(f, g) over(f, g) compare(f, g) floor_of(f) is_fraction(value)",
    "matrices": "determinant(table) adjoint(table) times_row(row, table) times_column(table, column) "
                "times_table(one, other) rank(rows) solved(table, column) parts_of(rays, w)",
    "grids": "need_grid(value) whole_grid(m) size_of(grid) point_at(grid, y) place_in(grid, t) form_on(grid, form) "
             "grid_of(vectors, s) grid_within(grid, inner) leading(grid, count) place_map(grid, inner) "
             "divided_grid(m, n, form) meet(one, other) others(grid)",
    "nearrows": "index_of(rays) near_row(rays) is_near_row(rays, value)",
    "amounts": "compare_at(one, other, p) above_row(amount) round_up(amount) round_down(amount) amount_sum(one, other) "
               "amount_times(amount, n)",
    "addings": "summed(m, rows, factors) settled(m, rows) is_settled(m, rows, value) least(m, rows, f) "
               "is_least(m, rows, f, value) follows(m, rows, row) bare(m, rows) flat(m, rows) inside(m, rows) "
               "is_inside(m, rows, value)",
    "rays": "ray_or_bounds(k, d, rows) is_ray_or_bounds(k, d, rows, value) box(k, d, rows, p)",
    "pieces": "is_in(pieces, t) on_grid(piece, grid)",
    "falling": "children(piece) empty_paper(piece) is_empty_paper(piece, value)",
    "sets": "common(one, other) taken_out(one, other) joined(one, other) fallen(pieces, count) is_apart(pieces) "
            "pieces_of(k, d, formula) plain_pieces(k, d, formula) formula_paper(k, d, formula) "
            "is_formula_paper(k, d, formula, value) has_point(pieces) first_point(pieces) is_within(one, other) "
            "is_same(one, other) parting(one, other) is_finite_set(pieces) need_finite_set(pieces) points_at(pieces, p, most)",
    "corners": "bases(hall) corner(hall, basis) feasible_rows(hall, basis) is_feasible(hall, basis, p) corners_at(hall, p)",
    "edges": "edges(hall, basis) all_edges(hall)",
    "directions": "is_direction(value, d, vectors) direction(d, vectors) uphill(lam, vectors) cover(hall, p, x, lam) "
                  "highest(hall, p, lam) uphill_counts(hall, p, lam)",
    "cones": "replaced(rays, i, w) holds(rays, lam, apex, x)",
    "trees": "is_tree(rays, value) tree_of(rays) leaves(rays, tree) tree_rays(rays, tree) leaves_hold(rays, tree, lam, apex, x)",
    "halltallies": "hall_paper(hall) is_hall_paper(hall, value) leaf_parts(hall, paper) tally_by(hall, paper, weight=None) "
                   "hall_tally(hall, weight=None) hall_count(hall, p)",
    "series": "at_one(ms) constant_of(ms) binoms(poly) of_binoms(row)",
    "steppolys": "is_plain(j, value) is_step_poly(k, value) value_at(k, sp, p) normal(k, sp) plus(k, one, other) "
                 "times(k, one, other) scaled(k, sp, fraction) raised(k, sp, e) put_in(k, j, sp, forms) on_class(k, sp, N, rest)",
    "periods": "alike_steps(k, one, other) least_period(k, sp)",
    "leaves": "number_poly(ms, j, e) leaf_sum(k, rays, lam, weight)",
    "tallies": "tally_breach(value, k) need_tally(value, k) value(tally, p) added(one, other) less(one, other) "
               "times(one, other) scaled(tally, fraction) constant(fraction) kept(tally, rows, gates) "
               "put_in_tally(tally, forms, n) tidied(tally)",
    "counting": "is_finite(k, d, formula) tally_of(k, d, formula) weighted_of(k, d, formula, weight) count_at(k, d, formula, p)",
    "summing": "summed(tally, k, many)",
    "alike": "alike(one, other, k) counts_alike(k, d, f, g)",
    "parts": "parts(tally, k)",
    "dilations": "dilation(d, rows) dilation_value(told, t) inner_dilation(d, rows)",
    "telescopes": "power_sums(n) sum_between(poly, low, high) moved_poly(poly, grid) poly_at(poly, t)",
    "onebyone": "tally_by_sums(k, d, formula, weight=None) sums_of_piece(piece, weight) count_by_sums(k, d, formula, p)",
    "nests": "nest_breach(value) check_nest(value)",
    "nestruns": "run(nest, p) touches(nest, p) first_meet(nest, array, s, t, kinds, p) peak(nest, array, s, p)",
    "nesttallies": "rounds_formula(nest, s) rounds_tally(nest, s) cost_tally(nest, prices) cells_formula(nest, array, kind) "
                   "cells_tally(nest, array, kind) lines_tally(nest, array, kind, w) both_tally(nest, array, s, t) "
                   "meets_formula(nest, array, s, t, kinds) meets_tally(nest, array, s, t, kinds) can_turn(nest, depth) "
                   "live_tally(nest, array, s) touch_alike(one, other, array, kind) touch_parting(one, other, array, kind)",
    "countpapers": "counting_breach(k, d, formula, value) counting_paper(k, d, formula) tally_from(k, d, formula, value, weight=None)",
    "claims": "claim_breach(value) saying_breach(value) opposite(saying) size_of(paper)",
    "judging": "judge(saying, value)",
    "answers": "answer(claim)",
    "sheets": "answered(claims) sheet_breach(value) check_sheet(value)",
    "books": "book_breach(value) need_book(value) hangs_on(book, name) written_out(book, name)",
}


class Interface(unittest.TestCase):
    def test_functions(self):
        for file, told in FUNCTIONS.items():
            module = importlib.import_module("pointtally." + file)
            for line in told.replace(") ", ")\n").split("\n"):
                name = line.split("(")[0]
                with self.subTest(line):
                    function = getattr(module, name)
                    self.assertTrue(inspect.isfunction(function))
                    self.assertEqual(function.__module__, module.__name__)
                    self.assertEqual(name + str(inspect.signature(function)), line)

    def test_desk(self):
        module = importlib.import_module("pointtally.desk")
        self.assertEqual(module.Desk.__module__, "pointtally.desk")
        self.assertEqual(str(inspect.signature(module.Desk)), "(book=(), *, most=50)")
        own = vars(module.Desk)
        for name in ("book", "deeds", "made"):
            self.assertIsInstance(own[name], property)
        for name, told in (("do", "(self, deed)"), ("undo", "(self)"), ("again", "(self)"), ("tally", "(self, name)"), ("kept", "(self, name)"), ("twin", "(self)")):
            self.assertEqual(str(inspect.signature(own[name])), told)

    def test_errors(self):
        module = importlib.import_module("pointtally.errors")
        for name in ERRORS:
            self.assertEqual(getattr(module, name).__module__, module.__name__)


if __name__ == "__main__":
    unittest.main()
