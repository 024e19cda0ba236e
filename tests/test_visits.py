import itertools
import unittest

from chancehouse.ever import ever
from chancehouse.exact import fraction, over, plus, times, total
from chancehouse.means import means
from chancehouse.rows import halted
from chancehouse.steps import spread
from chancehouse.visits import visits
from helper import (
    ALONE, HALF, HALL, NOUGHT, ONE, THIRD, as_fraction, as_pair, is_fraction, line, long_chain, marks_of,
    questions, reached, ring, tells, uneven_costs, uneven_row,
)

TWO = (2, 1)
# 0 leads to 1 and 4; 1 and 2 lead to one another for ever, 3 and 4 too.
TWINS = [[(1, HALF), (4, HALF)], [(2, ONE)], [(1, ONE)], [(4, ONE)], [(3, ONE)]]


def at(many, room):
    return [ONE if other == room else NOUGHT for other in range(many)]


def in_trap(chain, marks, room):
    """Whether the room lies in a sink without marks."""
    ahead = reached(chain, room, [])
    return not ahead & set(marks) and all(room in reached(chain, other, []) for other in ahead)


def without_end(chain, marks, start):
    if start in marks:
        return set()
    return {room for room in reached(chain, start, marks) if in_trap(chain, marks, room)}


class Visits(unittest.TestCase):
    def test_ordinary_chains(self):
        tells(self, [TWO, ONE, THIRD, (2, 3), NOUGHT], visits, HALL, [2, 3], 0)
        tells(self, [NOUGHT, ONE, THIRD, (2, 3), NOUGHT], visits, HALL, [2, 3], 1)
        tells(self, [ONE, HALF, (2, 3), THIRD, ONE], visits, HALL, [2, 3], 4)
        tells(self, [(3, 1), (3, 2), HALF, ONE, NOUGHT], visits, HALL, [3], 0)
        tells(self, [(3, 1), (3, 2), (3, 2), ONE, NOUGHT], visits, HALL, [3], 2)
        tells(self, [(3, 1), (3, 2), ONE, ONE, ONE], visits, HALL, [3], 4)

    def test_from_a_mark_one_goes_nowhere(self):
        for marks in marks_of(5):
            for start in marks:
                tells(self, at(5, start), visits, HALL, marks, start)
                tells(self, at(5, start), visits, TWINS, marks, start)

    def test_sinks_without_marks(self):
        tells(self, [TWO, ONE, THIRD, None, NOUGHT], visits, HALL, [2], 0)
        tells(self, [NOUGHT, NOUGHT, NOUGHT, None, NOUGHT], visits, HALL, [2], 3)
        tells(self, [ONE, HALF, (2, 3), None, ONE], visits, HALL, [2], 4)
        tells(self, [(3, 1), (3, 2), HALF, None, NOUGHT], visits, HALL, [], 0)

    def test_all_rooms_of_such_a_sink(self):
        tells(self, [ONE, None, None, None, None], visits, TWINS, [], 0)
        tells(self, [NOUGHT, None, None, NOUGHT, NOUGHT], visits, TWINS, [], 1)
        tells(self, [NOUGHT, None, None, NOUGHT, NOUGHT], visits, TWINS, [], 2)
        tells(self, [NOUGHT, NOUGHT, NOUGHT, None, None], visits, TWINS, [], 3)
        tells(self, [NOUGHT, NOUGHT, NOUGHT, None, None], visits, TWINS, [0], 4)

    def test_a_sink_with_marks_is_left_at_them(self):
        tells(self, [ONE, HALF, HALF, None, None], visits, TWINS, [2], 0)
        tells(self, [ONE, HALF, NOUGHT, None, None], visits, TWINS, [1], 0)
        tells(self, [ONE, HALF, NOUGHT, NOUGHT, HALF], visits, TWINS, [1, 4], 0)
        tells(self, [ONE, HALF, HALF, HALF, HALF], visits, TWINS, [2, 3], 0)
        tells(self, [NOUGHT, ONE, ONE, NOUGHT, NOUGHT], visits, TWINS, [2], 1)

    def test_a_sink_behind_marks_is_never_come_to(self):
        chain = [[(1, ONE)], [(2, ONE)], [(2, ONE)]]
        tells(self, [ONE, ONE, NOUGHT], visits, chain, [1], 0)
        tells(self, [NOUGHT, ONE, NOUGHT], visits, chain, [1], 1)
        tells(self, [NOUGHT, NOUGHT, None], visits, chain, [1], 2)
        tells(self, [ONE, ONE, None], visits, chain, [], 0)

    def test_rooms_behind_marks_are_never_come_to(self):
        tells(self, [ONE, ONE, NOUGHT, NOUGHT], visits, [[(1, ONE)], [(2, ONE)], [(3, ONE)], [(3, ONE)]], [1, 3], 0)

    def test_one_room(self):
        tells(self, [ONE], visits, ALONE, [0], 0)
        tells(self, [None], visits, ALONE, [], 0)

    def test_no_marks(self):
        for start in range(10):
            tells(self, [None] * 10, visits, ring(10), [], start)

    def test_all_rooms_marked(self):
        for start in range(10):
            tells(self, at(10, start), visits, ring(10), list(range(10)), start)

    def test_rows_of_one_way(self):
        for start in range(10):
            tells(self, [ONE if (4 - room) % 10 <= (4 - start) % 10 else NOUGHT for room in range(10)],
                  visits, ring(10), [4], start)

    def test_ways_back_into_the_same_room(self):
        often = 10 ** 9 - 1
        tells(self, [(often, 1), ONE], visits, [[(0, (often - 1, often)), (1, (1, often))], [(1, ONE)]], [1], 0)
        tells(self, [(3, 1), None], visits, [[(0, (2, 3)), (1, THIRD)], [(1, ONE)]], [], 0)
        tells(self, [None, NOUGHT], visits, [[(0, ONE)], [(1, ONE)]], [1], 0)

    def test_ten_rooms_in_a_line(self):
        # Of rooms on the way to the nearer end, each is come to as often as it is far from the other one.
        expected = [fraction(5, 9)] + [fraction(2 * room * 5, 9) for room in range(1, 5)] \
            + [fraction(2 * 4 * (9 - room), 9) for room in range(5, 9)] + [fraction(4, 9)]
        tells(self, expected, visits, line(10, HALF), [0, 9], 4)
        tells(self, [None] + expected[1:], visits, line(10, HALF), [9], 4)
        tells(self, [None] + expected[1:9] + [None], visits, line(10, HALF), [], 4)

    def test_ten_rooms_with_long_numbers(self):
        chain = long_chain(10)
        costs = uneven_costs(10)
        told = visits(chain, [3, 9], 5)
        self.check(chain, [3, 9], 5, told)
        self.assertEqual(total([times(told[room], costs[room]) for room in range(10) if room not in (3, 9)]),
                         means(chain, costs, [3, 9])[5])
        tells(self, told, visits, chain, [3, 9], 5)

    def test_chances_of_hundreds_of_figures(self):
        # The chain of those that come to 9 and not into the trap 8.
        chain = long_chain(10)
        chain[8] = [(8, ONE)]
        values = ever(chain, [9])
        surely = [[(room, over(times(chance, values[room]), values[start])) for room, chance in row if room != 8]
                  for start, row in enumerate(chain)]
        surely[8], surely[9] = [(8, ONE)], [(9, ONE)]
        here = visits(chain, [9], 2)
        there = visits(surely, [9], 2)
        self.assertEqual((here[8], there[8]), (None, NOUGHT))
        for room in (0, 1, 2, 3, 4, 5, 6, 7, 9):
            self.assertEqual(there[room], over(times(here[room], values[room]), values[2]))

    def test_rooms_that_all_lead_everywhere(self):
        chain = [uneven_row(list(range(10))) for room in range(10)]
        # Each step comes to the mark 9 with 10/55, to another room with as many parts as its number tells.
        expected = [fraction(room + 1, 10) for room in range(9)] + [ONE]
        expected[0] = fraction(11, 10)
        tells(self, expected, visits, chain, [9], 0)

    def check(self, chain, marks, start, told):
        """None just where it is told, and else what comes in: by the start, and by ways from rooms come to."""
        endless = without_end(chain, marks, start)
        self.assertEqual({room for room, one in enumerate(told) if one is None}, endless, (chain, marks, start))
        self.assertTrue(all(one is None or is_fraction(one) for one in told))
        come_to = reached(chain, start, marks)
        for room, one in enumerate(told):
            if room not in come_to:
                self.assertEqual(one, NOUGHT)
            elif room not in endless:
                ways_in = [as_fraction(told[other]) * as_fraction(chance) for other, row in enumerate(chain)
                           if other in come_to and other not in marks and other not in endless
                           for target, chance in row if target == room]
                self.assertEqual(one, as_pair((room == start) + sum(ways_in) + as_fraction(NOUGHT)))
                self.assertGreater(one, NOUGHT)

    def test_all_questions(self):
        for chain, marks in itertools.islice(questions(), 0, None, 2):
            for start in range(len(chain)):
                self.check(chain, marks, start, visits(chain, marks, start))

    def test_ever_is_the_sum_of_the_visits_of_marks(self):
        for chain, marks in itertools.islice(questions(), 0, None, 3):
            for start, value in enumerate(ever(chain, marks)):
                told = visits(chain, marks, start)
                self.assertEqual(total([told[room] for room in marks]), value, (chain, marks, start))

    def test_visits_counted_step_by_step(self):
        for chain, marks in itertools.islice(questions(), 0, None, 60):
            every = [visits(chain, marks, start) for start in range(len(chain))]
            for start, room in itertools.product(range(len(chain)), repeat=2):
                if every[start][room] is not None and room not in marks:
                    self.check_counted(chain, marks, start, room, [told[room] for told in every])

    def check_counted(self, chain, marks, start, room, ahead):
        """Four steps counted, and from then on what the visits from each room that is no mark tell."""
        counted = NOUGHT
        for step in range(4):
            counted = plus(counted, spread(halted(chain, marks), start, step)[room])
        there = spread(halted(chain, marks), start, 4)
        rest = [times(there[other], ahead[other]) for other in range(len(chain))
                if other not in marks and there[other] != NOUGHT]
        self.assertEqual(plus(counted, total(rest)), ahead[start], (chain, marks, start, room))


if __name__ == "__main__":
    unittest.main()
