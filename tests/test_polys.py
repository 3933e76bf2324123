import random
import unittest
from fractions import Fraction

from pointtally.polys import form_lot, poly_of, poly_value, put_lots


def random_lot(rng, j, count, top):
    """Return a random lot over j letters."""
    terms = {tuple(rng.randint(0, top) * rng.randint(0, 1) for _ in range(j)): rng.randint(-9, 9) for _ in range(count)}
    return terms, rng.choice((1, 2, 6, 35))


def at(lot, numbers):
    """Return the value of a lot."""
    total = Fraction(0)
    for exponents, number in lot[0].items():
        for letter, exponent in zip(numbers, exponents, strict=True):
            number = number * letter ** exponent
        total += number
    return total / lot[1]


class PutIn(unittest.TestCase):
    def test_values(self):
        rng = random.Random(541)
        for _ in range(400):
            m, j = rng.randint(0, 4), rng.randint(0, 4)
            lot, lots = random_lot(rng, m, rng.randint(0, 8), 3), [random_lot(rng, j, rng.choice((0, 1, 1, 2, 4)), 2) for _ in range(m)]
            kept = (dict(lot[0]), [dict(terms) for terms, _ in lots])
            told = put_lots(lot, lots, j)
            self.assertTrue(all(told[0].values()))
            self.assertEqual((lot[0], [terms for terms, _ in lots]), kept)
            for _ in range(3):
                numbers = tuple(rng.choice((0, 1, -1, rng.randint(-99, 99))) for _ in range(j))
                inner = [at(own, numbers) for own in lots]
                self.assertEqual(at(told, numbers), at(lot, inner))
                self.assertEqual(Fraction(*poly_value(poly_of(told), numbers)), at(lot, inner))

    def test_ends(self):
        self.assertEqual(put_lots(({}, 3), [form_lot((1, 2))], 1), ({}, 1))
        self.assertEqual(put_lots(({(): 4}, 6), [], 2), ({(0, 0): 2}, 3))
        # What cancels is left out, and a letter for which 0 is put in leaves its 0-th power alone.
        self.assertEqual(put_lots(({(1, 0): 1, (0, 1): -1}, 1), [form_lot((5, 1)), form_lot((5, 1))], 1), ({}, 1))
        self.assertEqual(put_lots(({(2,): 7, (0,): 3}, 1), [({}, 4)], 1), ({(0,): 3}, 1))
        self.assertEqual(put_lots(({(70,): 1}, 1), [({(2,): 1}, 1)], 1), ({(140,): 1}, 1))


if __name__ == "__main__":
    unittest.main()
