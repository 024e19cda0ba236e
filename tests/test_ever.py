import fractions
import itertools
import unittest

from chancehouse.ever import ever, ever_holds, ever_paper
from chancehouse.exact import fraction
from chancehouse.roads import ranks
from helper import (
    ALONE, HALF, HALL, NOUGHT, ONE, THIRD, as_fraction, chains_of, is_fraction, line, marks_of, questions,
    tells, uneven_row, weighed_by_hand,
)

RING = [[((room + 1) % 10, ONE)] for room in range(10)]


def broken(chain, marks, paper):
    """The conditions of point 14 that the paper does not keep, each by a name."""
    values, levels = paper
    found = set()
    if len(values) != len(chain):
        found.add("one value for each room")
    if len(levels) != len(chain):
        found.add("one rank for each room")
    if found:
        return found
    for room, row in enumerate(chain):
        ahead = [levels[target] for target, chance in row]
        if room in marks:
            found |= {"mark value"} if values[room] != ONE else set()
            found |= {"mark rank"} if levels[room] != 0 else set()
        elif levels[room] is None:
            found |= {"lost value"} if values[room] != NOUGHT else set()
            found |= {"lost ways"} if set(ahead) != {None} else set()
        else:
            found |= {"rank from 1 on"} if levels[room] < 1 else set()
            lower = [level for level in ahead if level is not None and level < levels[room]]
            found |= {"lower rank ahead"} if not lower else set()
            found |= {"weighed value"} if as_fraction(values[room]) != weighed_by_hand(row, values) else set()
    return found


class Ever(unittest.TestCase):
    def test_ordinary_chains(self):
        tells(self, [THIRD, THIRD, ONE, NOUGHT, (2, 3)], ever, HALL, [2])
        tells(self, [ONE] * 5, ever, HALL, [2, 3])
        tells(self, [ONE, THIRD, ONE, NOUGHT, ONE], ever, HALL, [0])
        tells(self, [NOUGHT, NOUGHT, NOUGHT, NOUGHT, ONE], ever, HALL, [4])
        tells(self, [ONE, ONE, ONE, ONE, ONE], ever, HALL, [3])
        tells(self, [(2, 5), ONE, NOUGHT], ever, [[(0, (1, 6)), (1, THIRD), (2, HALF)], [(0, ONE)], [(2, ONE)]], [1])

    def test_no_marks(self):
        tells(self, [NOUGHT] * 5, ever, HALL, [])
        tells(self, [NOUGHT] * 10, ever, RING, [])

    def test_all_rooms_marked(self):
        tells(self, [ONE] * 5, ever, HALL, list(range(5)))
        tells(self, [ONE] * 10, ever, RING, list(range(10)))

    def test_one_room(self):
        tells(self, [ONE], ever, ALONE, [0])
        tells(self, [NOUGHT], ever, ALONE, [])

    def test_rows_of_one_way(self):
        tells(self, [ONE] * 10, ever, RING, [4])
        tells(self, [ONE, NOUGHT, ONE], ever, [[(2, ONE)], [(1, ONE)], [(0, ONE)]], [2])

    def test_ways_back_into_the_same_room_only_hold_up(self):
        often = 10 ** 9 - 1
        tells(self, [ONE, ONE], ever, [[(0, (often - 1, often)), (1, (1, often))], [(1, ONE)]], [1])
        tells(self, [NOUGHT, ONE], ever, [[(0, ONE)], [(0, HALF), (1, HALF)]], [1])

    def test_what_a_mark_leads_into_is_nothing_to_it(self):
        tells(self, [NOUGHT, ONE, HALF], ever, [[(0, ONE)], [(0, ONE)], [(0, HALF), (1, HALF)]], [1])

    def test_ten_rooms_in_a_line(self):
        tells(self, [fraction(room, 9) for room in range(10)], ever, line(10, HALF), [9])
        tells(self, [fraction(9 - room, 9) for room in range(10)], ever, line(10, HALF), [0])
        tells(self, [ONE] * 10, ever, line(10, HALF), [0, 9])
        # Going up with a third, one room more is twice as hard to win.
        tells(self, [fraction(2 ** room - 1, 511) for room in range(10)], ever, line(10, THIRD), [9])

    def test_ten_rooms_with_long_numbers(self):
        up, down = 499999937, 500000062
        chain = line(10, (up, up + down))
        odds = fractions.Fraction(down, up)
        values = [(1 - odds ** room) / (1 - odds ** 9) for room in range(10)]
        tells(self, [(one.numerator, one.denominator) for one in values], ever, chain, [9])

    def test_ten_rooms_that_all_lead_everywhere(self):
        chain = [uneven_row(list(range(10))) for room in range(10)]
        tells(self, [ONE] * 10, ever, chain, [7])
        chain[2] = [(2, ONE)]
        chain[4] = [(4, ONE)]
        expected = [ONE if room == 4 else NOUGHT if room == 2 else (5, 8) for room in range(10)]
        tells(self, expected, ever, chain, [4])

    def test_chances_of_hundreds_of_figures(self):
        far = 10 ** 300
        chain = [[(0, (far - 3, far)), (1, (1, far)), (2, (2, far))], [(1, ONE)], [(2, ONE)]]
        chain[0] = [(room, fraction(*chance)) for room, chance in chain[0]]
        tells(self, [THIRD, ONE, NOUGHT], ever, chain, [1])

    def test_all_questions(self):
        for chain, marks in questions():
            values = ever(chain, marks)
            self.assertTrue(all(is_fraction(one) for one in values))
            self.assertEqual(broken(chain, marks, (values, ranks(chain, marks))), set(), (chain, marks))


class Paper(unittest.TestCase):
    def test_values_and_ranks(self):
        tells(self, ([THIRD, THIRD, ONE, NOUGHT, (2, 3)], [2, 1, 0, None, 1]), ever_paper, HALL, [2])
        tells(self, ([ONE] * 5, [2, 1, 0, 0, 1]), ever_paper, HALL, [2, 3])
        tells(self, ([NOUGHT] * 5, [None] * 5), ever_paper, HALL, [])
        tells(self, ([ONE] * 5, [0] * 5), ever_paper, HALL, list(range(5)))
        tells(self, ([ONE], [0]), ever_paper, ALONE, [0])
        tells(self, ([NOUGHT], [None]), ever_paper, ALONE, [])
        tells(self, ([fraction(room, 9) for room in range(10)], [None] + list(range(8, -1, -1))),
              ever_paper, line(10, HALF), [9])

    def test_the_paper_that_is_told_holds(self):
        for chain, marks in questions():
            paper = ever_paper(chain, marks)
            self.assertEqual(paper, (ever(chain, marks), ranks(chain, marks)))
            self.assertIs(ever_holds(chain, marks, paper), True, (chain, marks))
        tells(self, True, ever_holds, line(10, THIRD), [9], ever_paper(line(10, THIRD), [9]))


class Holds(unittest.TestCase):
    def holds(self, chain, marks, paper):
        self.assertEqual(broken(chain, marks, paper), set())
        tells(self, True, ever_holds, chain, marks, paper)

    def fails(self, condition, chain, marks, paper):
        """The paper keeps all conditions but this one."""
        self.assertEqual(broken(chain, marks, paper), {condition})
        tells(self, False, ever_holds, chain, marks, paper)

    def test_other_ranks_than_those_told(self):
        values = [THIRD, THIRD, ONE, NOUGHT, (2, 3)]
        for levels in ([2, 1, 0, None, 1], [9, 4, 0, None, 3], [10 ** 30, 10 ** 29, 0, None, 1],
                       [2, 1, 0, None, 17], [3, 2, 0, None, 4]):
            self.holds(HALL, [2], (values, levels))
        self.holds(ALONE, [0], ([ONE], [0]))
        self.holds(ALONE, [], ([NOUGHT], [None]))
        self.holds(RING, [3], ([ONE] * 10, [70, 60, 50, 0, 600, 500, 400, 300, 200, 100]))

    def test_a_lower_rank_may_be_lower_by_more_and_one_way_is_enough(self):
        chain = [[(1, HALF), (2, HALF)], [(1, HALF), (2, HALF)], [(2, ONE)]]
        self.holds(chain, [2], ([ONE] * 3, [1, 8, 0]))
        self.holds(chain, [2], ([ONE] * 3, [8, 1, 0]))
        self.holds(chain, [2], ([ONE] * 3, [8, 8, 0]))

    def test_too_few_or_too_many_values(self):
        values, levels = ever_paper(HALL, [2])
        for wrong in ([], values[:4], values + [ONE], values + [NOUGHT], values * 2):
            self.fails("one value for each room", HALL, [2], (wrong, levels))
        self.fails("one value for each room", ALONE, [], ([], [None]))
        self.fails("one value for each room", ALONE, [0], ([ONE, ONE], [0]))

    def test_too_few_or_too_many_ranks(self):
        values, levels = ever_paper(HALL, [2])
        for wrong in ([], levels[:4], levels + [0], levels + [None], levels * 2):
            self.fails("one rank for each room", HALL, [2], (values, wrong))
        self.fails("one rank for each room", ALONE, [], ([NOUGHT], []))
        self.fails("one rank for each room", ALONE, [0], ([ONE], [0, 0]))

    def test_too_few_or_too_many_of_both(self):
        for paper in (([], []), ([ONE], [0]), ([ONE] * 4, [0] * 4), ([ONE] * 6, [0] * 6), ([ONE] * 4, [0] * 6)):
            tells(self, False, ever_holds, HALL, list(range(5)), paper)
        tells(self, False, ever_holds, ALONE, [], ([], []))

    def test_a_mark_has_value_1(self):
        for wrong in (NOUGHT, HALF, (2, 1), (-1, 1), (10 ** 30, 10 ** 30 + 1)):
            self.fails("mark value", ALONE, [0], ([wrong], [0]))
            # All values keep to the rows, but are those of another mark.
            self.fails("mark value", [[(0, HALF), (1, HALF)], [(0, ONE)]], [1], ([wrong, wrong], [1, 0]))
            self.fails("mark value", [[(0, ONE)], [(0, ONE)]], [0, 1], ([ONE, wrong], [0, 0]))

    def test_a_mark_has_rank_0(self):
        chain = [[(0, HALF), (1, HALF)], [(0, ONE)]]
        for wrong in (-1, 1, 7, -10 ** 30):
            self.fails("mark rank", chain, [1], ([ONE, ONE], [8, wrong]))
            self.fails("mark rank", ALONE, [0], ([ONE], [wrong]))
            self.fails("mark rank", [[(0, ONE)], [(1, ONE)]], [0, 1], ([ONE, ONE], [0, wrong]))
        self.fails("mark rank", ALONE, [0], ([ONE], [None]))
        self.fails("mark rank", [[(0, ONE)], [(1, ONE)]], [0, 1], ([ONE, ONE], [0, None]))

    def test_a_room_of_rank_none_has_value_0(self):
        for wrong in (ONE, HALF, (-1, 2), (1, 10 ** 30)):
            self.fails("lost value", ALONE, [], ([wrong], [None]))
            self.fails("lost value", [[(1, ONE)], [(0, ONE)], [(2, ONE)]], [2],
                       ([wrong, wrong, ONE], [None, None, 0]))
            self.fails("lost value", [[(0, ONE)], [(1, ONE)]], [1], ([wrong, ONE], [None, 0]))

    def test_a_room_of_rank_none_leads_into_rooms_of_rank_none_alone(self):
        self.fails("lost ways", [[(0, HALF), (1, HALF)], [(1, ONE)]], [1], ([NOUGHT, ONE], [None, 0]))
        self.fails("lost ways", [[(1, ONE)], [(1, ONE)]], [1], ([NOUGHT, ONE], [None, 0]))
        self.fails("lost ways", [[(0, HALF), (1, (1, 4)), (2, (1, 4))], [(0, HALF), (2, HALF)], [(2, ONE)]], [2],
                   ([NOUGHT, HALF, ONE], [None, 1, 0]))
        # Only the last way of the last room is wrong.
        self.fails("lost ways", [[(0, ONE)], [(1, ONE)], [(0, HALF), (1, HALF)]], [1], ([NOUGHT, ONE, NOUGHT],
                                                                                         [None, 0, None]))

    def test_a_room_that_is_no_mark_has_a_rank_from_1_on(self):
        # With the marks at rank 0 no lower rank can be ahead of all such rooms, so this is never broken alone.
        chain = [[(0, HALF), (1, HALF)], [(1, ONE)]]
        for wrong in (0, -1, -2, -10 ** 30):
            paper = ([ONE, ONE], [wrong, 0])
            self.assertEqual(broken(chain, [1], paper), {"rank from 1 on", "lower rank ahead"})
            tells(self, False, ever_holds, chain, [1], paper)
        descent = [[(1, ONE)], [(0, HALF), (2, HALF)], [(2, ONE)]]
        tells(self, False, ever_holds, descent, [2], ([ONE] * 3, [0, -1, 0]))
        tells(self, False, ever_holds, descent, [2], ([ONE] * 3, [0, 1, 0]))
        tells(self, False, ever_holds, descent, [], ([ONE] * 3, [0, 0, 0]))

    def test_a_room_with_a_rank_has_a_way_into_a_room_of_a_lower_one(self):
        chain = [[(1, ONE)], [(0, HALF), (2, HALF)], [(2, ONE)]]
        self.fails("lower rank ahead", chain, [2], ([ONE] * 3, [1, 1, 0]))
        self.fails("lower rank ahead", chain, [2], ([ONE] * 3, [1, 2, 0]))
        self.fails("lower rank ahead", chain, [2], ([ONE] * 3, [5, 5, 0]))
        # Rooms from which one never comes to a mark, told to do so with values that keep to the rows.
        for value in (NOUGHT, HALF, ONE):
            shut = [[(1, ONE)], [(0, ONE)], [(2, ONE)]]
            self.fails("lower rank ahead", shut, [2], ([value, value, ONE], [2, 1, 0]))
            self.fails("lower rank ahead", shut, [2], ([value, value, ONE], [1, 1, 0]))
            self.fails("lower rank ahead", ALONE, [], ([value], [1]))

    def test_rank_none_is_no_lower_rank(self):
        chain = [[(0, HALF), (1, HALF)], [(1, ONE)], [(2, ONE)]]
        self.fails("lower rank ahead", chain, [2], ([NOUGHT, NOUGHT, ONE], [1, None, 0]))

    def test_the_value_of_a_room_with_a_rank_is_the_weighed_sum(self):
        for wrong in (NOUGHT, ONE, (1, 4), (-1, 3), (10 ** 30, 3 * 10 ** 30 + 1)):
            self.fails("weighed value", [[(1, THIRD), (2, (2, 3))], [(1, ONE)], [(2, ONE)]], [1],
                       ([wrong, ONE, NOUGHT], [1, 0, None]))
        for wrong in (NOUGHT, HALF, (2, 1)):
            self.fails("weighed value", [[(0, HALF), (1, HALF)], [(1, ONE)]], [1], ([wrong, ONE], [1, 0]))
        values = [fraction(room, 9) for room in range(10)]
        values[1] = (1, 10)
        self.fails("weighed value", line(10, HALF), [9], (values, [None, 8, 7, 6, 5, 4, 3, 2, 1, 0]))

    def test_long_values(self):
        far = 10 ** 1999
        values = [fraction(far - 2 * room - 1, far) for room in range(9)] + [ONE]
        self.assertIs(ever_holds(line(10, HALF), [9], (values, [None, 8, 7, 6, 5, 4, 3, 2, 1, 0])), False)
        awkward = [(1, far + room) for room in range(9)] + [ONE]
        full = [uneven_row(list(range(10))) for room in range(10)]
        self.assertIs(ever_holds(full, [9], (awkward, [1] * 9 + [0])), False)

    def test_all_papers_of_some_numbers(self):
        for many, some_values, some_levels in (
            (1, (NOUGHT, ONE, HALF, (-1, 1)), (None, -1, 0, 1, 2)),
            (2, (NOUGHT, ONE, THIRD, (2, 3)), (None, -1, 0, 1, 2)),
        ):
            papers = [(list(values), list(levels)) for values in itertools.product(some_values, repeat=many)
                      for levels in itertools.product(some_levels, repeat=many)]
            for chain in chains_of(many):
                for marks in marks_of(many):
                    for paper in papers:
                        self.check(chain, marks, paper)

    def check(self, chain, marks, paper):
        answer = ever_holds(chain, marks, paper)
        self.assertIs(answer, broken(chain, marks, paper) == set(), (chain, marks, paper))
        if answer:
            self.assertEqual(paper[0], ever(chain, marks))

    def test_all_papers_near_one_that_holds(self):
        for chain, marks in itertools.islice(questions(), 0, None, 20):
            values, levels = ever_paper(chain, marks)
            for room in range(len(chain)):
                for value in (NOUGHT, ONE, HALF):
                    self.check(chain, marks, (values[:room] + [value] + values[room + 1:], levels))
                for level in (None, 0, 1, 2, 9):
                    self.check(chain, marks, (values, levels[:room] + [level] + levels[room + 1:]))


if __name__ == "__main__":
    unittest.main()
