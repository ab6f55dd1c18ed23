"""[60] matrices, with [3]."""

import unittest
from itertools import permutations

from drawing import Drawing, any_values, both_ways, caught, numbers_beyond, refuses, some_prices
from hitclocks.errors import BadMatrix
from hitclocks.fronts import any_times, at_price, front_of, is_below, joined, summed
from hitclocks.matrices import is_matrix, matrix_join, matrix_power, matrix_product, matrix_star, transposed, unit_matrix
from reference import mutants

ZERO = front_of([(0, 0)])
ENDLESS = ("endless",)
KINDS = [None, ENDLESS, ("at", (1, 1), -2), ("at", (1, 0), 0), ZERO, front_of([(2, -1), (-1, 2)]),
         ("over", (3, 1), (1, 1), ((-1, 1),))]


def drawn_matrix(drawing, rows, filled=2, span=3):
    return tuple(tuple(drawing.front(span) if drawing.below(3) < filled else None for _ in range(rows)) for _ in range(rows))


def finite_matrix(drawing, rows):
    """Entries that are less than 0 at all prices, so that no round gains."""
    return tuple(tuple(front_of([(-1 - drawing.below(3), -1 - drawing.below(3)), (-drawing.below(6) - 1, -1)])
                       if drawing.below(3) else None for _ in range(rows)) for _ in range(rows))


def is_below_each(one, other):
    return all(is_below(front, more) for row, other_row in zip(one, other) for front, more in zip(row, other_row))


def wrong_matrices():
    wrong = [thing for thing in any_values() if thing != ((),)]
    wrong += [(), ((),), [(None,)], ([None],), ((None, None),), ((None,), (None,)), ((None, None), (None,)), ((0,),), (("endless",),),
              ((("endless", 0),),), ((("over", (1, 0), (0, 1), ()),),), ((True,),), ((("at", (1, 0), True),),), ((["endless"],),)]
    return [(thing, BadMatrix, {}) for thing in wrong if not is_matrix_by_words(thing)]


def is_matrix_by_words(thing):
    from hitclocks.fronts import is_front
    if type(thing) is not tuple or not 1 <= len(thing) <= 120:
        return False
    return all(type(row) is tuple and len(row) == len(thing) and all(is_front(front) for front in row) for row in thing)


class Judging(unittest.TestCase):
    def test_one_thing_otherwise(self):
        judged = {True: 0, False: 0}
        for matrix in [((KINDS[5],),), ((None, KINDS[2]), (ENDLESS, KINDS[6]))]:
            kept = repr(matrix)
            self.assertIs(both_ways(self, is_matrix, thing=matrix), True)
            for thing in mutants(matrix):
                right = is_matrix_by_words(thing)
                self.assertIs(is_matrix(thing), right, thing)
                judged[right] += 1
            self.assertEqual(repr(matrix), kept)
        self.assertGreater(min(judged.values()), 10)

    def test_any_values(self):
        for thing in any_values():
            self.assertIs(is_matrix(thing), is_matrix_by_words(thing))
            self.assertIs(is_matrix((thing,)), is_matrix_by_words((thing,)))
            self.assertIs(is_matrix(((thing,),)), is_matrix_by_words(((thing,),)))
        for kind in KINDS:
            self.assertIs(is_matrix(((kind,),)), True)

    def test_120_rows_and_121(self):
        for rows, right in [(1, True), (120, True), (121, False)]:
            matrix = ((None,) * rows,) * rows
            self.assertIs(is_matrix(matrix), right)
            if not right:
                caught(self, BadMatrix, {}, transposed, matrix)
        self.assertEqual(matrix_star(((None,) * 120,) * 120), unit_matrix(120))
        ring = tuple(tuple(front_of([(1, -1)]) if t == (s + 1) % 120 else None for t in range(120)) for s in range(120))
        power = matrix_power(ring, 200)
        self.assertEqual(power[0][80], front_of([(200, -200)]))
        self.assertEqual(power[0].count(None), 119)
        star = matrix_star(ring)
        self.assertEqual(star[5][8], ("over", (1, 1), (0, 1), ((3, -3),)))
        self.assertEqual(star[8][5], ("over", (1, 1), (0, 1), ((117, -117),)))


class Refusing(unittest.TestCase):
    def test_wrong_values(self):
        one = ((ZERO,),)
        two = unit_matrix(2)
        wrong = wrong_matrices()
        for function in (matrix_star, transposed):
            refuses(self, function, {"matrix": one}, {"matrix": wrong})
        for function in (matrix_join, matrix_product):
            more = wrong + [(two, BadMatrix, {}), (unit_matrix(3), BadMatrix, {})]
            refuses(self, function, {"one": one, "other": one}, {"one": wrong, "other": more})
        refuses(self, matrix_power, {"matrix": two, "number": 1}, {"matrix": wrong, "number": numbers_beyond(0, 200)})
        refuses(self, unit_matrix, {"many": 1}, {"many": numbers_beyond(1, 120)})


class Sums(unittest.TestCase):
    def test_by_hand(self):
        a, b = front_of([(1, 0)]), front_of([(0, 1)])
        one = ((a, None), (b, ENDLESS))
        other = ((b, a), (None, ("at", (1, 1), 4)))
        self.assertEqual(both_ways(self, matrix_join, one=one, other=other),
                         ((front_of([(1, 0), (0, 1)]), a), (b, ENDLESS)))
        self.assertEqual(both_ways(self, matrix_product, one=one, other=other),
                         ((front_of([(1, 1)]), front_of([(2, 0)])), (front_of([(0, 2)]), ENDLESS)))
        self.assertEqual(both_ways(self, transposed, matrix=one), ((a, b), (None, ENDLESS)))
        self.assertEqual(both_ways(self, unit_matrix, many=2), ((ZERO, None), (None, ZERO)))
        self.assertEqual(unit_matrix(1), ((ZERO,),))
        self.assertEqual(both_ways(self, matrix_power, matrix=one, number=0), unit_matrix(2))
        self.assertEqual(both_ways(self, matrix_power, matrix=one, number=1), one)
        self.assertEqual(both_ways(self, matrix_power, matrix=one, number=2),
                         ((front_of([(2, 0)]), None), (ENDLESS, ENDLESS)))
        for kind in KINDS:
            self.assertEqual(matrix_star(((kind,),)), ((any_times(kind),),))

    def test_products_and_powers_of_drawn_matrices(self):
        drawing = Drawing(81)
        for _ in range(40):
            rows = 1 + drawing.below(4)
            one, other = drawn_matrix(drawing, rows), drawn_matrix(drawing, rows)
            product = [[None] * rows for _ in range(rows)]
            join = [[joined(front, more) for front, more in zip(row, more_row)] for row, more_row in zip(one, other)]
            for s in range(rows):
                for t in range(rows):
                    for u in range(rows):
                        product[s][t] = joined(product[s][t], summed(one[s][u], other[u][t]))
            self.assertEqual(matrix_product(one, other), tuple(tuple(row) for row in product))
            self.assertEqual(matrix_join(one, other), tuple(tuple(row) for row in join))
            self.assertEqual(transposed(matrix_product(one, other)), matrix_product(transposed(other), transposed(one)))
            self.assertEqual(transposed(transposed(one)), one)
            power = unit_matrix(rows)
            for number in range(8):
                self.assertEqual(matrix_power(one, number), power)
                power = matrix_product(power, one)
            self.assertEqual(matrix_power(one, 200), matrix_product(matrix_power(one, 199), one))
            self.assertEqual(matrix_power(one, 200), matrix_product(matrix_power(one, 77), matrix_power(one, 123)))


class Stars(unittest.TestCase):
    def test_star_against_powers_at_prices(self):
        drawing = Drawing(82)
        endless = 0
        for _ in range(60):
            rows = 1 + drawing.below(3)
            matrix = drawn_matrix(drawing, rows) if drawing.below(2) else finite_matrix(drawing, rows)
            star = matrix_star(matrix)
            powers = [matrix_power(matrix, number) for number in range(rows + 1)]
            later = [matrix_power(matrix, number) for number in range(rows + 1, 4 * rows + 12)]
            for price in some_prices()[::5]:
                for s in range(rows):
                    for t in range(rows):
                        short = [at_price(power[s][t], price) for power in powers]
                        long = [at_price(power[s][t], price) for power in later]
                        best = max([number for number in short if number not in (None, "endless")], default=None)
                        more = [number for number in short + long if number is not None]
                        # What gains shows itself within few rounds, as the worths of the drawn entries are small.
                        if "endless" in more or best is not None and max(more) > best or best is None and more:
                            best = "endless"
                            endless += 1
                        self.assertEqual(at_price(star[s][t], price), best)
        self.assertGreater(endless, 100)

    def test_least_of_its_kind(self):
        drawing = Drawing(83)
        others = 0
        for _ in range(60):
            rows = 1 + drawing.below(4)
            matrix = finite_matrix(drawing, rows) if drawing.below(2) else drawn_matrix(drawing, rows, 1)
            star = matrix_star(matrix)
            unit = unit_matrix(rows)
            self.assertIs(is_matrix(star), True)
            self.assertEqual(matrix_join(unit, matrix_product(matrix, star)), star)
            self.assertEqual(matrix_join(unit, matrix_product(star, matrix)), star)
            self.assertEqual(matrix_star(star), star)
            other = matrix_join(star, matrix_product(star, drawn_matrix(drawing, rows)))
            for thing in (other, star, matrix_join(unit, matrix)):
                if is_below_each(matrix_join(unit, matrix_product(matrix, thing)), thing):
                    self.assertTrue(is_below_each(star, thing))
                    others += 1
        self.assertGreater(others, 100)

    def test_in_any_order_of_states(self):
        drawing = Drawing(84)
        for _ in range(12):
            matrix = drawn_matrix(drawing, 3)
            star = matrix_star(matrix)
            for order in permutations(range(3)):
                changed = tuple(tuple(matrix[s][t] for t in order) for s in order)
                self.assertEqual(matrix_star(changed), tuple(tuple(star[s][t] for t in order) for s in order))

    def test_nothing_behind_what_is_endless(self):
        self.assertEqual(matrix_star(((ENDLESS, None), (None, None))), ((ENDLESS, None), (None, ZERO)))
        self.assertEqual(matrix_star(((ENDLESS, ZERO), (None, None))), ((ENDLESS, ENDLESS), (None, ZERO)))
        self.assertEqual(matrix_star(((None, ENDLESS), (None, None))), ((ZERO, ENDLESS), (None, ZERO)))


if __name__ == "__main__":
    unittest.main()
