import fractions
import itertools
import random
import unittest

from chancehouse.errors import NoAnswer
from chancehouse.exact import fraction
from chancehouse.tables import idle, solved
from helper import is_fraction, refuses, tells

NOUGHT = (0, 1)
ONE = (1, 1)
HALF = (1, 2)
THIRD = (1, 3)


def whole(rows):
    return [[(number, 1) for number in row] for row in rows]


def as_fraction(one):
    return fractions.Fraction(one[0], one[1])


def products(table, some):
    """What each row's numbers, times those of the list place by place, come to."""
    return [sum(as_fraction(one) * as_fraction(other) for one, other in zip(row, some)) for row in table]


def sign(order):
    return (-1) ** sum(one > other for one, other in itertools.combinations(order, 2))


def determinant(rows):
    """Of whole numbers, by the sum over all orders of the places."""
    answer = 0
    for order in itertools.permutations(range(len(rows))):
        part = sign(order)
        for row, place in zip(rows, order):
            part *= row[place]
        answer += part
    return answer


def by_determinants(rows, dues):
    under = determinant(rows)
    return [fraction(determinant([row[:place] + [due] + row[place + 1:] for row, due in zip(rows, dues)]), under)
            for place in range(len(rows))]


def numbers_of_sixty_figures(many, seed, with_bottoms):
    chooser = random.Random(seed)

    def number():
        return chooser.randrange(10 ** 59, 10 ** 60)

    return [fraction(chooser.choice((-1, 1)) * number(), number() if with_bottoms else 1) for one in range(many)]


def table_of_sixty_figures(many, seed, with_bottoms=False):
    some = numbers_of_sixty_figures(many * many, seed, with_bottoms)
    return [some[start:start + many] for start in range(0, many * many, many)]


def unit(many, place):
    return [ONE if other == place else NOUGHT for other in range(many)]


class Solved(unittest.TestCase):
    def test_no_rows(self):
        tells(self, [], solved, [], [])

    def test_one_row(self):
        tells(self, [(3, 2)], solved, whole([[2]]), [(3, 1)])
        tells(self, [(-1, 3)], solved, [[(-3, 2)]], [HALF])
        tells(self, [NOUGHT], solved, [[(5, 7)]], [NOUGHT])

    def test_ordinary_tables(self):
        tells(self, [(2, 1), (1, 1)], solved, whole([[1, 1], [1, -1]]), [(3, 1), (1, 1)])
        tells(self, [(1, 5), (3, 5)], solved, whole([[2, 1], [1, 3]]), [(1, 1), (2, 1)])
        tells(self, [(-12, 1), (9, 1)], solved, [[HALF, THIRD], [THIRD, (1, 4)]], [(-3, 1), (-7, 4)])
        tells(self, [(2, 1), (3, 1), (-1, 1)], solved, whole([[2, 1, -1], [-3, -1, 2], [-2, 1, 2]]),
              [(8, 1), (-11, 1), (-3, 1)])

    def test_noughts_where_a_row_would_begin(self):
        tells(self, [(7, 1), (5, 1)], solved, whole([[0, 1], [1, 0]]), [(5, 1), (7, 1)])
        tells(self, [(3, 1), (1, 1), (2, 1)], solved, whole([[0, 1, 0], [0, 0, 1], [1, 0, 0]]),
              [(1, 1), (2, 1), (3, 1)])
        tells(self, [(1, 2), (5, 2), (-1, 2)], solved, whole([[1, 1, 0], [1, 1, 2], [0, 1, 1]]),
              [(3, 1), (2, 1), (2, 1)])

    def test_dues_of_0(self):
        tells(self, [NOUGHT] * 3, solved, whole([[2, 1, -1], [-3, -1, 2], [-2, 1, 2]]), [NOUGHT] * 3)

    def test_rows_that_are_one_list(self):
        row = [(1, 1), (2, 1)]
        refuses(self, NoAnswer, solved, [row, row], [ONE, ONE])

    def test_numbers_beyond_sixty_figures(self):
        far = 10 ** 300 + 1
        tells(self, [(1, far), (far, 1)], solved, [[(far, 1), NOUGHT], [NOUGHT, (1, far)]], [ONE, ONE])

    def test_no_list_is_refused(self):
        refuses(self, NoAnswer, solved, [[NOUGHT]], [ONE])
        refuses(self, NoAnswer, solved, whole([[1, 2], [2, 4]]), [ONE, ONE])
        refuses(self, NoAnswer, solved, whole([[1, 1], [0, 0]]), [ONE, ONE])
        refuses(self, NoAnswer, solved, whole([[0, 1], [0, 2]]), [ONE, ONE])
        refuses(self, NoAnswer, solved, whole([[1, 2, 3], [4, 5, 6], [7, 8, 9]]), [ONE, ONE, NOUGHT])

    def test_more_than_one_list_is_refused(self):
        refuses(self, NoAnswer, solved, [[NOUGHT]], [NOUGHT])
        refuses(self, NoAnswer, solved, whole([[1, 2], [2, 4]]), [ONE, (2, 1)])
        refuses(self, NoAnswer, solved, whole([[1, 1], [0, 0]]), [ONE, NOUGHT])
        refuses(self, NoAnswer, solved, whole([[0, 1], [0, 2]]), [ONE, (2, 1)])
        refuses(self, NoAnswer, solved, whole([[1, 2, 3], [4, 5, 6], [7, 8, 9]]), [ONE, ONE, ONE])
        refuses(self, NoAnswer, solved, [[NOUGHT] * 12 for row in range(12)], [NOUGHT] * 12)

    def test_all_small_tables(self):
        for size, numbers in ((1, range(-2, 3)), (2, range(-2, 4)), (3, (0, 1, -2))):
            dues = list(range(3, 3 + size))
            rows = [list(row) for row in itertools.product(numbers, repeat=size)]
            for some in itertools.product(rows, repeat=size):
                given = (whole(some), [(due, 1) for due in dues])
                if determinant(some) == 0:
                    self.assertRaises(NoAnswer, solved, *given)
                else:
                    self.assertEqual(solved(*given), by_determinants(list(some), dues))


class SolvedWithLongNumbers(unittest.TestCase):
    def check(self, table, dues):
        answer = solved(table, dues)
        self.assertEqual(len(answer), len(table))
        self.assertTrue(all(is_fraction(one) for one in answer))
        self.assertEqual(products(table, answer), [as_fraction(due) for due in dues])
        return answer

    def test_twelve_rows(self):
        rising = [[(1, 1) if place <= row else NOUGHT for place in range(12)] for row in range(12)]
        tells(self, [ONE] * 12, solved, rising, [(row + 1, 1) for row in range(12)])
        tells(self, [ONE] * 12, solved, list(reversed(rising)), [(12 - row, 1) for row in range(12)])
        # Hilbert's table: the sums of its rows are the dues of a list of ones.
        hilbert = [[(1, row + place + 1) for place in range(12)] for row in range(12)]
        sums = [sum(map(as_fraction, row)) for row in hilbert]
        tells(self, [ONE] * 12, solved, hilbert, [(one.numerator, one.denominator) for one in sums])

    def test_whole_numbers_of_sixty_figures(self):
        for many in (1, 2, 3, 7, 12):
            table = table_of_sixty_figures(many, many)
            answer = self.check(table, numbers_of_sixty_figures(many, 5, False))
            self.assertTrue(any(one[1] > 10 ** (50 * many) for one in answer))

    def test_fractions_of_sixty_figures(self):
        for many in (1, 2, 4):
            table = table_of_sixty_figures(many, many, True)
            self.check(table, numbers_of_sixty_figures(many, 6, True))

    def test_twelve_rows_of_fractions_of_sixty_figures(self):
        table = table_of_sixty_figures(12, 8, True)
        tells(self, [NOUGHT] * 12, solved, table, [NOUGHT] * 12)
        tells(self, unit(12, 3), solved, table, [row[3] for row in table])

    def test_twelve_rows_of_sixty_figures_that_are_refused(self):
        table = table_of_sixty_figures(12, 9)
        table[7] = list(table[2])
        refuses(self, NoAnswer, solved, table, [NOUGHT] * 12)
        refuses(self, NoAnswer, solved, table, unit(12, 7))
        table = table_of_sixty_figures(12, 9, True)
        for row in table:
            row[11] = NOUGHT
        refuses(self, NoAnswer, solved, table, unit(12, 0))

    def test_a_table_that_is_all_but_refused(self):
        most = 10 ** 60 - 1
        table = whole([[most, most - 1], [most - 1, most - 2]])
        tells(self, [(2 - most, 1), (most - 1, 1)], solved, table, [ONE, NOUGHT])


class Idle(unittest.TestCase):
    def check(self, table):
        answer = idle(table)
        self.assertIsInstance(answer, list)
        self.assertEqual(len(answer), len(table))
        self.assertTrue(all(is_fraction(one) for one in answer))
        self.assertTrue(any(one != NOUGHT for one in answer))
        self.assertEqual(products(table, answer), [0] * len(table))

    def test_no_rows(self):
        tells(self, None, idle, [])

    def test_none(self):
        tells(self, None, idle, [[ONE]])
        tells(self, None, idle, [[(-1, 10 ** 60 - 1)]])
        tells(self, None, idle, whole([[0, 1], [1, 0]]))
        tells(self, None, idle, whole([[2, 1, -1], [-3, -1, 2], [-2, 1, 2]]))
        tells(self, None, idle, [[HALF, THIRD], [THIRD, (1, 4)]])
        tells(self, None, idle, [unit(12, 11 - row) for row in range(12)])

    def test_ordinary_tables(self):
        for table in (
            [[NOUGHT]],
            whole([[0, 0], [0, 0]]),
            whole([[1, 2], [2, 4]]),
            whole([[0, 1], [0, 2]]),
            whole([[1, 0], [2, 0]]),
            whole([[0, 0], [1, -3]]),
            [[HALF, THIRD], [(3, 4), HALF]],
            whole([[1, 2, 3], [4, 5, 6], [7, 8, 9]]),
            whole([[1, 2, 3], [1, 2, 3], [-2, -4, -6]]),
            whole([[0, 1, 2], [0, 3, 4], [0, 5, 6]]),
            whole([[0, 0, 2], [0, 0, 4], [0, 3, 6]]),
            [[NOUGHT] * 12 for row in range(12)],
        ):
            with self.subTest(table=table):
                self.check(table)
                tells(self, idle(table), idle, table)

    def test_rows_that_are_one_list(self):
        row = [(1, 1), (2, 1), (-3, 1)]
        self.check([row, row, row])
        tells(self, idle([row, row, row]), idle, [row, row, row])

    def test_all_small_tables(self):
        for size, numbers in ((1, range(-2, 3)), (2, range(-2, 4)), (3, (0, 1, -2))):
            rows = [list(row) for row in itertools.product(numbers, repeat=size)]
            for some in itertools.product(rows, repeat=size):
                if determinant(some) == 0:
                    self.check(whole(some))
                else:
                    self.assertIsNone(idle(whole(some)))

    def test_twelve_rows(self):
        for left in range(12):
            # All places but one are held to 0, so the list is not 0 at that one alone.
            table = [unit(12, place) for place in range(12) if place != left] + [[NOUGHT] * 12]
            self.check(table)
            self.assertEqual([place for place, one in enumerate(idle(table)) if one != NOUGHT], [left])

    def test_numbers_of_sixty_figures(self):
        for many, with_bottoms in ((2, True), (4, True), (12, False)):
            table = table_of_sixty_figures(many, many, with_bottoms)
            tells(self, None, idle, table)
            table[many - 1] = list(table[0])
            self.check(table)
            for row in table:
                row[0] = row[many - 1]
            self.check(table)

    def test_twelve_rows_of_fractions_of_sixty_figures(self):
        table = table_of_sixty_figures(12, 8, True)
        tells(self, None, idle, table)
        for row in table:
            row[5] = NOUGHT
        self.check(table)
        for row in table:
            row[5] = row[9]
        self.check(table)


if __name__ == "__main__":
    unittest.main()
