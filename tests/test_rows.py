import itertools
import unittest

from chancehouse.errors import NoRow
from chancehouse.exact import fraction
from chancehouse.rows import halted, is_chain, is_row, row_of, stepped, weighed
from helper import refuses, tells

NOUGHT = (0, 1)
ONE = (1, 1)
HALF = (1, 2)
THIRD = (1, 3)
LONG = 10 ** 300 + 7


class RowOf(unittest.TestCase):
    def test_pairs_in_any_order(self):
        pairs = [(0, HALF), (2, THIRD), (3, (1, 6))]
        for order in itertools.permutations(pairs):
            tells(self, pairs, row_of, list(order), 4)

    def test_one_room_alone(self):
        tells(self, [(0, ONE)], row_of, [(0, ONE)], 1)
        tells(self, [(9, ONE)], row_of, [(9, ONE)], 10)

    def test_chances_of_one_room_are_added(self):
        tells(self, [(1, ONE)], row_of, [(1, HALF), (1, HALF)], 2)
        tells(self, [(0, HALF), (1, HALF)], row_of, [(1, THIRD), (0, HALF), (1, (1, 6))], 2)
        tells(self, [(0, ONE)], row_of, [(0, (1, 200))] * 200, 1)

    def test_noughts_are_left_out(self):
        tells(self, [(1, ONE)], row_of, [(0, NOUGHT), (1, ONE), (2, NOUGHT), (0, NOUGHT)], 3)
        tells(self, [(1, ONE)], row_of, [(1, NOUGHT), (1, ONE), (1, NOUGHT)], 2)
        tells(self, [(0, HALF), (2, HALF)], row_of, [(2, HALF), (1, NOUGHT), (0, HALF)], 3)

    def test_long_chances(self):
        tells(self, [(0, (1, LONG)), (1, (LONG - 1, LONG))], row_of,
              [(1, (LONG - 1, LONG)), (0, (1, LONG))], 2)
        refuses(self, NoRow, row_of, [(1, (LONG - 1, LONG)), (0, (2, LONG))], 2)

    def test_a_room_below_0_is_refused(self):
        refuses(self, NoRow, row_of, [(-1, ONE)], 2)
        refuses(self, NoRow, row_of, [(0, HALF), (-1, HALF)], 2)
        refuses(self, NoRow, row_of, [(0, ONE), (-1, NOUGHT)], 2)
        refuses(self, NoRow, row_of, [(-2, NOUGHT), (0, ONE)], 2)

    def test_a_room_not_below_the_told_number_is_refused(self):
        for wrong in (2, 3, 100):
            refuses(self, NoRow, row_of, [(wrong, ONE)], 2)
            refuses(self, NoRow, row_of, [(0, HALF), (wrong, HALF)], 2)
            refuses(self, NoRow, row_of, [(0, ONE), (wrong, NOUGHT)], 2)
            refuses(self, NoRow, row_of, [(wrong, NOUGHT), (0, ONE)], 2)
        refuses(self, NoRow, row_of, [(1, ONE)], 1)

    def test_a_chance_below_0_is_refused(self):
        refuses(self, NoRow, row_of, [(0, (3, 2)), (1, (-1, 2))], 2)
        refuses(self, NoRow, row_of, [(0, (-1, 2)), (0, (3, 2))], 2)
        refuses(self, NoRow, row_of, [(0, ONE), (1, HALF), (1, (-1, 2))], 2)
        refuses(self, NoRow, row_of, [(0, (-1, 1))], 1)

    def test_chances_that_do_not_come_to_1_are_refused(self):
        for wrong in ([], [(0, NOUGHT)], [(0, HALF)], [(0, HALF), (1, THIRD)], [(0, (2, 1))],
                      [(0, ONE), (1, ONE)], [(0, HALF), (1, HALF), (1, (1, 999))],
                      [(0, ONE), (0, ONE)]):
            with self.subTest(wrong=wrong):
                refuses(self, NoRow, row_of, wrong, 2)

    def test_what_is_made_is_a_row(self):
        chances = (NOUGHT, (1, 4), HALF, ONE)
        for some in itertools.product(chances, repeat=3):
            pairs = [(2, some[0]), (0, some[1]), (2, some[2])]
            try:
                row = row_of(pairs, 3)
            except NoRow:
                continue
            self.assertIs(is_row(row, 3), True)


class IsRow(unittest.TestCase):
    def test_rows(self):
        for row, many in (
            ([(0, ONE)], 1), ([(0, ONE)], 5), ([(4, ONE)], 5), ([(0, HALF), (1, HALF)], 2),
            ([(1, THIRD), (3, (2, 3))], 4), ([(0, (1, LONG)), (1, (LONG - 1, LONG))], 2),
            ([(k, (1, 10)) for k in range(10)], 10), ([(k, (1, 14)) for k in range(14)], 14),
        ):
            with self.subTest(row=row, many=many):
                tells(self, True, is_row, row, many)

    def test_no_rows(self):
        for why, row, many in (
            ("no ways", [], 1),
            ("falling rooms", [(1, HALF), (0, HALF)], 2),
            ("falling rooms behind rising ones", [(0, HALF), (2, (1, 4)), (1, (1, 4))], 3),
            ("a room twice", [(0, HALF), (0, HALF)], 2),
            ("a room below 0", [(-1, ONE)], 1),
            ("a room below 0 among others", [(-1, HALF), (0, HALF)], 1),
            ("a room not below the number", [(1, ONE)], 1),
            ("the last room not below the number", [(0, HALF), (2, HALF)], 2),
            ("a chance of 0", [(0, ONE), (1, NOUGHT)], 2),
            ("a chance of 0 ahead", [(0, NOUGHT), (1, ONE)], 2),
            ("a chance below 0", [(0, (-1, 2)), (1, (3, 2))], 2),
            ("less than 1", [(0, HALF), (1, THIRD)], 2),
            ("a little less than 1", [(0, (LONG - 1, LONG))], 2),
            ("more than 1", [(0, HALF), (1, (2, 3))], 2),
            ("one chance above 1", [(0, (3, 2))], 2),
        ):
            with self.subTest(why=why):
                tells(self, False, is_row, row, many)


class IsChain(unittest.TestCase):
    def test_chains(self):
        for chain in (
            [[(0, ONE)]],
            [[(1, ONE)], [(0, ONE)]],
            [[(0, HALF), (1, HALF)], [(1, ONE)]],
            [[(k, (1, 10)) for k in range(10)] for room in range(10)],
            [[(10 - room, ONE)] for room in range(11)],
        ):
            with self.subTest(chain=chain):
                tells(self, True, is_chain, chain)

    def test_no_chains(self):
        for why, chain in (
            ("no rooms", []),
            ("a row without ways", [[]]),
            ("a row without ways behind a row", [[(0, ONE)], []]),
            ("a way out of the chain", [[(1, ONE)]]),
            ("a way out of the chain, last", [[(0, ONE)], [(1, HALF), (2, HALF)]]),
            ("a room below 0", [[(0, ONE)], [(-1, ONE)]]),
            ("falling rooms", [[(1, HALF), (0, HALF)], [(0, ONE)]]),
            ("a room twice", [[(1, HALF), (1, HALF)], [(0, ONE)]]),
            ("a chance of 0", [[(0, ONE), (1, NOUGHT)], [(0, ONE)]]),
            ("a chance below 0", [[(0, (2, 1)), (1, (-1, 1))], [(0, ONE)]]),
            ("less than 1", [[(0, ONE)], [(0, HALF)]]),
            ("more than 1", [[(0, ONE), (1, HALF)], [(0, ONE)]]),
        ):
            with self.subTest(why=why):
                tells(self, False, is_chain, chain)


class Weighed(unittest.TestCase):
    def test_values_above_below_and_at_0(self):
        row = [(0, HALF), (2, THIRD), (3, (1, 6))]
        tells(self, (8, 3), weighed, row, [(1, 1), (50, 1), (2, 1), (9, 1)])
        tells(self, (-19, 12), weighed, row, [(-3, 1), (50, 1), (-1, 2), HALF])
        tells(self, NOUGHT, weighed, row, [NOUGHT, (50, 1), NOUGHT, NOUGHT])
        tells(self, NOUGHT, weighed, row, [(1, 1), (50, 1), (-1, 1), (-1, 1)])
        tells(self, (1, 3), weighed, row, [NOUGHT, NOUGHT, ONE, NOUGHT])

    def test_one_way(self):
        tells(self, (-7, 3), weighed, [(1, ONE)], [ONE, (-7, 3)])

    def test_long_values(self):
        row = [(0, (1, LONG)), (1, (LONG - 1, LONG))]
        tells(self, ONE, weighed, row, [(LONG, 1), NOUGHT])
        tells(self, fraction(2 - LONG, LONG), weighed, row, [ONE, (-1, 1)])


class Stepped(unittest.TestCase):
    chain = [[(0, HALF), (1, HALF)], [(0, THIRD), (2, (2, 3))], [(2, ONE)]]

    def test_numbers_above_below_and_at_0(self):
        for spread, expected in (
            ([ONE, NOUGHT, NOUGHT], [HALF, HALF, NOUGHT]),
            ([NOUGHT, ONE, NOUGHT], [THIRD, NOUGHT, (2, 3)]),
            ([NOUGHT, NOUGHT, ONE], [NOUGHT, NOUGHT, ONE]),
            ([NOUGHT, NOUGHT, NOUGHT], [NOUGHT, NOUGHT, NOUGHT]),
            ([(1, 4), HALF, (1, 4)], [(7, 24), (1, 8), (7, 12)]),
            ([(-2, 1), (3, 1), (-5, 2)], [NOUGHT, (-1, 1), (-1, 2)]),
            ([(6, 1), (12, 1), (-8, 1)], [(7, 1), (3, 1), NOUGHT]),
        ):
            with self.subTest(spread=spread):
                tells(self, expected, stepped, self.chain, spread)

    def test_rooms_that_change_places(self):
        tells(self, [(-4, 1), (5, 7)], stepped, [[(1, ONE)], [(0, ONE)]], [(5, 7), (-4, 1)])

    def test_one_room(self):
        tells(self, [(-5, 7)], stepped, [[(0, ONE)]], [(-5, 7)])

    def test_rows_that_are_one_list(self):
        row = [(0, THIRD), (1, (2, 3))]
        tells(self, [(1, 3), (2, 3)], stepped, [row, row], [(1, 4), (3, 4)])


class Halted(unittest.TestCase):
    chain = [[(0, HALF), (1, HALF)], [(0, THIRD), (2, (2, 3))], [(0, ONE)]]

    def test_no_marks(self):
        tells(self, self.chain, halted, self.chain, [])

    def test_some_marks(self):
        tells(self, [[(0, ONE)], self.chain[1], self.chain[2]], halted, self.chain, [0])
        tells(self, [self.chain[0], [(1, ONE)], self.chain[2]], halted, self.chain, [1])
        tells(self, [[(0, ONE)], self.chain[1], [(2, ONE)]], halted, self.chain, [0, 2])

    def test_all_marks(self):
        tells(self, [[(0, ONE)], [(1, ONE)], [(2, ONE)]], halted, self.chain, [0, 1, 2])

    def test_one_room(self):
        tells(self, [[(0, ONE)]], halted, [[(0, ONE)]], [])
        tells(self, [[(0, ONE)]], halted, [[(0, ONE)]], [0])

    def test_rows_that_are_one_list_come_apart(self):
        row = [(0, HALF), (2, HALF)]
        tells(self, [row, row, row], halted, [row, row, row], [])
        tells(self, [row, [(1, ONE)], row], halted, [row, row, row], [1])

    def test_what_is_told_is_a_chain(self):
        for marks in ([], [0], [1, 2], [0, 1, 2]):
            self.assertIs(is_chain(halted(self.chain, marks)), True)


if __name__ == "__main__":
    unittest.main()
