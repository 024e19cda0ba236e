import fractions
import itertools
import unittest

from chancehouse.errors import NoNumber
from chancehouse.exact import fraction, less, minus, over, plus, times, total
from helper import refuses, tells

NO_WHOLE_NUMBERS = (
    True, False, None, "", "1", [], [1], (), (1, 1), {}, {1: 1}, 1.0, 0.5,
    fractions.Fraction(1, 2), 1j, b"1", {1}, int,
)
LONG = 3 ** 700
LONGER = 7 ** 1100
SOME = [(0, 1), (1, 1), (-1, 1), (1, 2), (-1, 2), (3, 4), (-5, 6), (7, 6), (12, 1), (-9, 1),
        (LONG, LONGER), (-LONGER, LONG), (1, LONG), (-1, LONGER), (LONG, 1), (1 - LONG, LONG)]


def as_fraction(one):
    return fractions.Fraction(one[0], one[1])


def as_tuple(one):
    return (one.numerator, one.denominator)


class Fractions(unittest.TestCase):
    def test_lowest_terms_with_the_bottom_from_1_on(self):
        for top, bottom, expected in (
            (1, 2, (1, 2)), (2, 4, (1, 2)), (-2, 4, (-1, 2)), (2, -4, (-1, 2)), (-2, -4, (1, 2)),
            (6, 3, (2, 1)), (6, -3, (-2, 1)), (-6, 3, (-2, 1)), (5, 1, (5, 1)), (5, -1, (-5, 1)),
            (0, 1, (0, 1)), (0, 7, (0, 1)), (0, -7, (0, 1)), (7, 7, (1, 1)), (-7, 7, (-1, 1)),
            (10, 15, (2, 3)), (15, 10, (3, 2)), (1, -1, (-1, 1)), (-1, -1, (1, 1)),
        ):
            with self.subTest(top=top, bottom=bottom):
                tells(self, expected, fraction, top, bottom)

    def test_all_small_ones(self):
        for top, bottom in itertools.product(range(-14, 15), range(-14, 15)):
            if bottom != 0:
                expected = as_tuple(fractions.Fraction(top, bottom))
                self.assertEqual(repr(fraction(top, bottom)), repr(expected))

    def test_some_hundred_figures(self):
        tells(self, (LONG, LONGER), fraction, LONG, LONGER)
        tells(self, (-LONG, LONGER), fraction, LONG * 10 ** 400, -LONGER * 10 ** 400)
        tells(self, (2, 3), fraction, -2 * LONG * LONGER, -3 * LONG * LONGER)
        tells(self, (1, LONG), fraction, LONGER, LONG * LONGER)
        tells(self, (LONG, 1), fraction, LONG * LONGER, LONGER)
        tells(self, (0, 1), fraction, 0, -LONGER)
        tells(self, (-1, 10 ** 1999), fraction, 10 ** 1, -10 ** 2000)

    def test_neighbours_in_the_row_of_fibonacci_take_the_most_steps(self):
        one, other = 1, 1
        for step in range(4000):
            one, other = other, one + other
        tells(self, (one, other), fraction, one, other)
        tells(self, (-one, other), fraction, one * 6, other * -6)

    def test_what_is_no_whole_number_is_refused(self):
        for wrong in NO_WHOLE_NUMBERS:
            with self.subTest(wrong=wrong):
                refuses(self, NoNumber, fraction, wrong, 1)
                refuses(self, NoNumber, fraction, 1, wrong)
                refuses(self, NoNumber, fraction, 0, wrong)
                refuses(self, NoNumber, fraction, wrong, 0)
                refuses(self, NoNumber, fraction, wrong, wrong)

    def test_a_second_number_0_is_refused(self):
        for top in (0, 1, -1, 12, LONG, -LONGER, 10 ** 5000):
            with self.assertRaises(NoNumber):
                fraction(top, 0)
        refuses(self, NoNumber, fraction, 0, 0)
        refuses(self, NoNumber, fraction, 5, 0)


class Sums(unittest.TestCase):
    def agree(self, function, expected):
        for one, other in itertools.product(SOME, SOME):
            answer = expected(as_fraction(one), as_fraction(other))
            tells(self, as_tuple(answer), function, one, other)

    def test_plus(self):
        tells(self, (5, 6), plus, (1, 2), (1, 3))
        tells(self, (1, 1), plus, (1, 2), (1, 2))
        tells(self, (0, 1), plus, (1, 2), (-1, 2))
        tells(self, (-1, 6), plus, (1, 3), (-1, 2))
        self.agree(plus, lambda one, other: one + other)

    def test_minus(self):
        tells(self, (1, 6), minus, (1, 2), (1, 3))
        tells(self, (-1, 6), minus, (1, 3), (1, 2))
        tells(self, (0, 1), minus, (1, 3), (1, 3))
        tells(self, (1, 1), minus, (1, 2), (-1, 2))
        self.agree(minus, lambda one, other: one - other)

    def test_times(self):
        tells(self, (1, 2), times, (2, 3), (3, 4))
        tells(self, (-1, 2), times, (2, 3), (-3, 4))
        tells(self, (0, 1), times, (0, 1), (-3, 4))
        tells(self, (1, 1), times, (-2, 3), (-3, 2))
        self.agree(times, lambda one, other: one * other)

    def test_over(self):
        tells(self, (8, 9), over, (2, 3), (3, 4))
        tells(self, (-8, 9), over, (2, 3), (-3, 4))
        tells(self, (0, 1), over, (0, 1), (-3, 4))
        for one, other in itertools.product(SOME, SOME):
            if other != (0, 1):
                tells(self, as_tuple(as_fraction(one) / as_fraction(other)), over, one, other)

    def test_over_0_is_refused(self):
        for one in SOME:
            refuses(self, NoNumber, over, one, (0, 1))

    def test_total(self):
        tells(self, (0, 1), total, [])
        tells(self, (-3, 4), total, [(-3, 4)])
        tells(self, (0, 1), total, [(0, 1)])
        tells(self, (1, 1), total, [(1, 2), (1, 3), (1, 6)])
        tells(self, (0, 1), total, [(1, 2), (-1, 3), (-1, 6)])
        tells(self, as_tuple(sum(as_fraction(one) for one in SOME)), total, SOME)

    def test_total_of_two_hundred(self):
        tells(self, (1, 1), total, [(1, 200)] * 200)
        tells(self, (200, 201), total, [fraction(1, k * (k + 1)) for k in range(1, 201)])
        tells(self, (0, 1), total, [(LONG, LONGER), (-LONG, LONGER)] * 100)


class Less(unittest.TestCase):
    def test_both_orders(self):
        for one, other in (
            ((1, 3), (1, 2)), ((-1, 2), (-1, 3)), ((-1, 2), (0, 1)), ((0, 1), (1, 9)),
            ((2, 3), (3, 4)), ((-5, 1), (1, 7)), ((99, 100), (1, 1)), ((1, 1), (2, 1)),
            ((LONG - 1, LONG), (1, 1)), ((LONG, LONG + 1), (LONG + 1, LONG + 2)),
        ):
            with self.subTest(one=one, other=other):
                tells(self, True, less, one, other)
                tells(self, False, less, other, one)

    def test_a_number_and_itself(self):
        for one in SOME:
            tells(self, False, less, one, one)

    def test_all_pairs(self):
        for one, other in itertools.product(SOME, SOME):
            tells(self, as_fraction(one) < as_fraction(other), less, one, other)


if __name__ == "__main__":
    unittest.main()
