import itertools
import unittest

from chancehouse.ever import ever
from chancehouse.exact import fraction, plus, times, total
from chancehouse.houses import chain_mixed, costs_mixed
from chancehouse.means import means, means_hold, means_paper
from chancehouse.roads import falls, ranks
from chancehouse.rows import halted
from chancehouse.steps import spread
from chancehouse.visits import visits
from helper import (
    ALONE, HALF, HALL, NOUGHT, ONE, THIRD, as_fraction, chains_of, is_fraction, line, long_chain, marks_of,
    questions, ring, tells, uneven_costs, uneven_row, weighed_by_hand,
)

FEES = [ONE, (2, 1), (3, 1), NOUGHT, HALF]
# 0 leads to the mark 3, or to 1, from which one may fall into the trap 2; 4 leads to 3 for sure.
FORK = [[(1, HALF), (3, HALF)], [(0, THIRD), (2, THIRD), (3, THIRD)], [(2, ONE)], [(3, ONE)], [(3, HALF), (4, HALF)]]
FORK_PAPER = ([None, None, None, NOUGHT, (2, 1)], [1, 1, None, 0, 1], [2, 1, 0, None, None])


def broken(chain, costs, marks, paper):
    """The conditions of point 16 that the paper does not keep, each by a name."""
    found = set()
    for name, some in zip(("values", "ranks", "falls"), paper):
        if len(some) != len(chain):
            found.add("length of " + name)
    for room, row in enumerate(chain if not found else []):
        found |= broken_at(row, costs[room], room in marks, paper, room)
    return found


def broken_at(row, cost, is_mark, paper, room):
    value, level, drop = [some[room] for some in paper]
    if is_mark:
        return names({"mark value": value != NOUGHT, "mark rank": level != 0, "mark fall": drop is not None})
    ahead = [paper[1][target] for target, chance in row]
    below = [paper[2][target] for target, chance in row]
    lost = level is None
    return names({
        "lost ways": lost and set(ahead) != {None},
        "lost fall": lost and drop != 0,
        "rank from 1 on": not lost and level < 1,
        "lower rank ahead": not lost and not any(one is not None and one < level for one in ahead),
        "fall from 1 on": not lost and drop is not None and drop < 1,
        "lower fall ahead": not lost and drop is not None and not any(one is not None and one < drop for one in below),
        "no fall ahead": not lost and drop is None and set(below) != {None},
        "value none": drop is not None and value is not None,
        "value sum": drop is None and not is_sum(row, cost, paper[0], value),
    })


def names(conditions):
    return {name for name, is_broken in conditions.items() if is_broken}


def is_sum(row, cost, values, value):
    if value is None or any(values[target] is None for target, chance in row):
        return False
    return as_fraction(value) == as_fraction(cost) + weighed_by_hand(row, values)


class Means(unittest.TestCase):
    def test_ordinary_chains(self):
        tells(self, [(4, 1), (2, 1), NOUGHT, NOUGHT, (5, 2)], means, HALL, FEES, [2, 3])
        tells(self, [(15, 2), (11, 2), (21, 2), NOUGHT, (19, 2)], means, HALL, FEES, [3])
        tells(self, [None, None, NOUGHT, None, None], means, HALL, FEES, [2])
        tells(self, [NOUGHT, None, (3, 1), None, (2, 1)], means, HALL, FEES, [0])
        tells(self, [None, None, None, NOUGHT, (2, 1)], means, FORK, [ONE] * 5, [3])
        tells(self, [(9, 5), (8, 5), NOUGHT, NOUGHT, (2, 1)], means, FORK, [ONE] * 5, [2, 3])

    def test_no_marks(self):
        tells(self, [None] * 5, means, HALL, FEES, [])
        tells(self, [None] * 10, means, ring(10), [ONE] * 10, [])

    def test_all_rooms_marked(self):
        tells(self, [NOUGHT] * 5, means, HALL, FEES, [0, 1, 2, 3, 4])
        tells(self, [NOUGHT] * 10, means, ring(10), [(7, 3)] * 10, list(range(10)))

    def test_one_room(self):
        for cost in (NOUGHT, ONE, (2, 3)):
            tells(self, [NOUGHT], means, ALONE, [cost], [0])
            tells(self, [None], means, ALONE, [cost], [])

    def test_costs_of_0(self):
        tells(self, [NOUGHT] * 5, means, HALL, [NOUGHT] * 5, [2, 3])
        tells(self, [NOUGHT] * 10, means, ring(10), [NOUGHT] * 10, [4])
        tells(self, [(3, 1), (3, 1), NOUGHT, NOUGHT, (3, 2)], means, HALL, [NOUGHT, (3, 1), ONE, ONE, NOUGHT], [2, 3])

    def test_none_whatever_the_costs(self):
        for costs in ([NOUGHT] * 5, FEES, [ONE, ONE, ONE, NOUGHT, ONE], [NOUGHT, NOUGHT, NOUGHT, ONE, NOUGHT]):
            tells(self, [None, None, NOUGHT, None, None], means, HALL, costs, [2])
            tells(self, [None] * 5, means, HALL, costs, [])

    def test_what_is_paid_at_a_mark_is_not_told(self):
        for fee in (NOUGHT, ONE, (10 ** 8, 3)):
            tells(self, [(2, 1), NOUGHT], means, [[(0, HALF), (1, HALF)], [(0, ONE)]], [ONE, fee], [1])

    def test_rows_of_one_way(self):
        tells(self, [fraction((4 - room) % 10, 3) for room in range(10)], means, ring(10), [THIRD] * 10, [4])
        tells(self, [(3, 1), None, NOUGHT], means, [[(2, ONE)], [(1, ONE)], [(0, ONE)]], [(3, 1)] * 3, [2])

    def test_ways_back_into_the_same_room(self):
        often = 10 ** 9 - 1
        chain = [[(0, (often - 1, often)), (1, (1, often))], [(1, ONE)]]
        tells(self, [(often, 1), NOUGHT], means, chain, [ONE, ONE], [1])
        tells(self, [(often * often, often - 1), NOUGHT], means, chain, [(often, often - 1), ONE], [1])
        tells(self, [None, NOUGHT], means, [[(0, ONE)], [(0, HALF), (1, HALF)]], [ONE, ONE], [1])

    def test_ten_rooms_in_a_line(self):
        tells(self, [(room * (9 - room), 1) for room in range(10)], means, line(10, HALF), [ONE] * 10, [0, 9])
        tells(self, [None] * 9 + [NOUGHT], means, line(10, HALF), [ONE] * 10, [9])
        up = line(10, HALF)
        up[0] = [(1, ONE)]
        tells(self, [(81 - room * room, 1) for room in range(10)], means, up, [ONE] * 10, [9])

    def test_ten_rooms_with_long_numbers(self):
        chain = long_chain(10)
        costs = [(10 ** 9 - 1 - 2 * room, 10 ** 9 - 10 - 3 * room) for room in range(10)]
        costs = [fraction(*cost) for cost in costs]
        values = means(chain, costs, [9])
        self.assertTrue(all(is_fraction(one) for one in values))
        self.assertEqual(broken(chain, costs, [9], (values, [1] * 9 + [0], [None] * 10)), set())
        tells(self, values, means, chain, costs, [9])

    def test_chains_and_costs_under_a_mix(self):
        rows = [long_chain(10), [uneven_row(list(range(10)))] * 10]
        house = [[((room, 7), rows[0][room]), (fraction(5, room + 2), rows[1][room])] for room in range(10)]
        house = [[(fraction(*cost), row) for cost, row in doors] for doors in house]
        mix = [[(10 ** 8, 10 ** 9 - 1), (9 * 10 ** 8 - 1, 10 ** 9 - 1)]] * 10
        chain, costs = chain_mixed(house, mix), costs_mixed(house, mix)
        paper = means_paper(chain, costs, [5])
        self.assertEqual(broken(chain, costs, [5], paper), set())
        self.assertIs(means_hold(chain, costs, [5], paper), True)

    def test_all_questions(self):
        for chain, marks in questions():
            costs = uneven_costs(len(chain))
            values, drops = means(chain, costs, marks), falls(chain, marks)
            self.assertTrue(all(one is None or is_fraction(one) for one in values))
            self.assertEqual([one is None for one in values], [drop is not None for drop in drops])
            self.assertEqual(broken(chain, costs, marks, (values, ranks(chain, marks), drops)), set(), (chain, marks))

    def test_none_just_where_one_does_not_come_to_a_mark_with_chance_1(self):
        for chain, marks in itertools.islice(questions(), 0, None, 3):
            values = means(chain, uneven_costs(len(chain)), marks)
            self.assertEqual([one is not None for one in values], [one == ONE for one in ever(chain, marks)])

    def test_the_visits_times_the_costs(self):
        for chain, marks in itertools.islice(questions(), 0, None, 3):
            costs = uneven_costs(len(chain))
            for start, value in enumerate(means(chain, costs, marks)):
                if value is not None:
                    often = visits(chain, marks, start)
                    paid = [times(often[room], costs[room]) for room in range(len(chain)) if room not in marks]
                    self.assertEqual(total(paid), value, (chain, marks, start))

    def test_costs_counted_step_by_step(self):
        for chain, marks in itertools.islice(questions(), 0, None, 50):
            costs, values = uneven_costs(len(chain)), means(chain, uneven_costs(len(chain)), marks)
            for start in [room for room, value in enumerate(values) if value is not None]:
                self.check_counted(chain, costs, marks, start, values, 5)
        self.check_counted(line(10, HALF), [ONE] * 10, [0, 9], 4, means(line(10, HALF), [ONE] * 10, [0, 9]), 40)

    def check_counted(self, chain, costs, marks, start, values, steps):
        """What is paid in so many steps, and the means of the rooms that one is in then."""
        paid = NOUGHT
        inner = [room for room in range(len(chain)) if room not in marks]
        for step in range(steps):
            there = spread(halted(chain, marks), start, step)
            paid = plus(paid, total([times(there[room], costs[room]) for room in inner]))
        there = spread(halted(chain, marks), start, steps)
        ahead = [times(there[room], values[room]) for room in inner if there[room] != NOUGHT]
        self.assertEqual(plus(paid, total(ahead)), values[start], (chain, marks, start))


class Paper(unittest.TestCase):
    def test_values_ranks_and_falls(self):
        tells(self, FORK_PAPER, means_paper, FORK, [ONE] * 5, [3])
        tells(self, ([(4, 1), (2, 1), NOUGHT, NOUGHT, (5, 2)], [2, 1, 0, 0, 1], [None] * 5),
              means_paper, HALL, FEES, [2, 3])
        tells(self, ([None, None, NOUGHT, None, None], [2, 1, 0, None, 1], [2, 1, None, 0, 3]),
              means_paper, HALL, FEES, [2])
        tells(self, ([None] * 5, [None] * 5, [0] * 5), means_paper, HALL, FEES, [])
        tells(self, ([NOUGHT] * 5, [0] * 5, [None] * 5), means_paper, HALL, FEES, [0, 1, 2, 3, 4])
        tells(self, ([NOUGHT], [0], [None]), means_paper, ALONE, [ONE], [0])
        tells(self, ([None], [None], [0]), means_paper, ALONE, [ONE], [])
        tells(self, ([(9 - room, 1) for room in range(10)], list(range(9, -1, -1)), [None] * 10),
              means_paper, ring(10), [ONE] * 10, [9])

    def test_the_paper_that_is_told_holds(self):
        for chain, marks in questions():
            costs = uneven_costs(len(chain))
            paper = means_paper(chain, costs, marks)
            self.assertEqual(paper, (means(chain, costs, marks), ranks(chain, marks), falls(chain, marks)))
            self.assertIs(means_hold(chain, costs, marks, paper), True, (chain, marks))
        tells(self, True, means_hold, FORK, [ONE] * 5, [3], means_paper(FORK, [ONE] * 5, [3]))


class Hold(unittest.TestCase):
    def holds(self, chain, costs, marks, paper):
        self.assertEqual(broken(chain, costs, marks, paper), set())
        tells(self, True, means_hold, chain, costs, marks, paper)

    def fails(self, condition, chain, costs, marks, paper):
        """The paper keeps all conditions but this one."""
        self.assertEqual(broken(chain, costs, marks, paper), {condition})
        tells(self, False, means_hold, chain, costs, marks, paper)

    def test_other_ranks_and_falls_than_those_told(self):
        values = FORK_PAPER[0]
        for levels in ([1, 1, None, 0, 1], [7, 5, None, 0, 10 ** 30], [2, 3, None, 0, 9]):
            for drops in ([2, 1, 0, None, None], [9, 4, 0, None, None], [10 ** 30, 10 ** 29, 0, None, None]):
                self.holds(FORK, [ONE] * 5, [3], (values, levels, drops))
        self.holds(ring(10), [ONE] * 10, [3],
                   ([((3 - room) % 10, 1) for room in range(10)], [70, 60, 50, 0, 600, 500, 400, 300, 200, 100],
                    [None] * 10))
        self.holds(ALONE, [ONE], [0], ([NOUGHT], [0], [None]))
        self.holds(ALONE, [ONE], [], ([None], [None], [0]))

    def test_too_few_or_too_many_things(self):
        told = means_paper(FORK, [ONE] * 5, [3])
        for place, name in enumerate(("values", "ranks", "falls")):
            for wrong in ([], told[place][:4], told[place] + told[place][:1], told[place] * 2):
                paper = told[:place] + (wrong,) + told[place + 1:]
                self.fails("length of " + name, FORK, [ONE] * 5, [3], paper)
            for marks in ([], [0]):
                told_alone = means_paper(ALONE, [ONE], marks)
                for wrong in ([], told_alone[place] * 2):
                    paper = told_alone[:place] + (wrong,) + told_alone[place + 1:]
                    self.fails("length of " + name, ALONE, [ONE], marks, paper)

    def test_all_too_short_or_too_long(self):
        for many in (0, 1, 4, 6):
            tells(self, False, means_hold, HALL, FEES, [0, 1, 2, 3, 4], ([NOUGHT] * many, [0] * many, [None] * many))
            tells(self, False, means_hold, HALL, FEES, [], ([None] * many, [None] * many, [0] * many))

    def test_a_mark_has_value_0(self):
        for wrong in (ONE, (-1, 1), (1, 10 ** 30), None):
            self.fails("mark value", ALONE, [ONE], [0], ([wrong], [0], [None]))
            self.fails("mark value", [[(0, ONE)], [(0, ONE)]], [ONE] * 2, [0, 1], ([NOUGHT, wrong], [0, 0], [None] * 2))
        for wrong in (ONE, (-1, 1), (1, 10 ** 30)):
            # All values keep to the rows, but are those of another mark's value.
            self.fails("mark value", [[(0, HALF), (1, HALF)], [(0, ONE)]], [ONE] * 2, [1],
                       ([plus((2, 1), wrong), wrong], [1, 0], [None] * 2))

    def test_a_mark_has_rank_0(self):
        chain = [[(0, HALF), (1, HALF)], [(0, ONE)]]
        for wrong in (-1, 1, 7, -10 ** 30):
            self.fails("mark rank", chain, [ONE] * 2, [1], ([(2, 1), NOUGHT], [8, wrong], [None] * 2))
        for wrong in (-1, 1, 7, -10 ** 30, None):
            self.fails("mark rank", ALONE, [ONE], [0], ([NOUGHT], [wrong], [None]))
            self.fails("mark rank", [[(0, ONE)], [(1, ONE)]], [ONE] * 2, [0, 1], ([NOUGHT] * 2, [0, wrong], [None] * 2))

    def test_a_mark_has_no_fall(self):
        for wrong in (0, 1, -1, 10 ** 30):
            self.fails("mark fall", ALONE, [ONE], [0], ([NOUGHT], [0], [wrong]))
            self.fails("mark fall", [[(0, ONE)], [(1, ONE)]], [ONE] * 2, [0, 1], ([NOUGHT] * 2, [0, 0], [None, wrong]))
            # Nor has one that does lead into rooms with falls.
            self.fails("mark fall", [[(0, ONE)], [(0, ONE)]], [ONE] * 2, [1], ([None, NOUGHT], [None, 0], [0, wrong]))

    def test_a_room_of_rank_none_leads_into_rooms_of_rank_none_alone(self):
        for row in ([(0, HALF), (1, HALF)], [(1, ONE)]):
            self.fails("lost ways", [row, [(1, ONE)]], [ONE] * 2, [1], ([None, NOUGHT], [None, 0], [0, None]))
        self.fails("lost ways", [[(0, HALF), (1, HALF)], [(0, HALF), (2, HALF)], [(2, ONE)]], [ONE] * 3, [2],
                   ([None, None, NOUGHT], [None, 1, 0], [0, 1, None]))
        # Only the last way of the last room is wrong.
        self.fails("lost ways", [[(0, ONE)], [(1, ONE)], [(0, HALF), (1, HALF)]], [ONE] * 3, [1],
                   ([None, NOUGHT, None], [None, 0, None], [0, None, 0]))

    def test_a_room_of_rank_none_has_fall_0(self):
        for wrong in (1, 2, -1, 10 ** 30):
            self.fails("lost fall", ALONE, [ONE], [], ([None], [None], [wrong]))
            # Not a higher one either where it leads into a room of fall 0.
            self.fails("lost fall", [[(1, ONE)], [(1, ONE)], [(2, ONE)]], [ONE] * 3, [2],
                       ([None, None, NOUGHT], [None, None, 0], [wrong, 0, None]))

    def test_a_room_of_rank_none_is_not_without_a_fall(self):
        # With costs of 0 whatever value keeps to the row of a room that leads into itself alone.
        for value in (NOUGHT, ONE, (-1, 3)):
            self.fails("lost fall", ALONE, [NOUGHT], [], ([value], [None], [None]))
            self.fails("lost fall", [[(1, ONE)], [(0, ONE)], [(2, ONE)]], [NOUGHT] * 3, [2],
                       ([value, value, NOUGHT], [None, None, 0], [None] * 3))
        tells(self, False, means_hold, ALONE, [ONE], [], ([None], [None], [None]))

    def test_a_room_that_is_no_mark_has_a_rank_from_1_on(self):
        # With the marks at rank 0 no lower rank can be ahead of all such rooms, so this is never broken alone.
        chain = [[(0, HALF), (1, HALF)], [(1, ONE)]]
        for wrong in (0, -1, -2, -10 ** 30):
            paper = ([(2, 1), NOUGHT], [wrong, 0], [None] * 2)
            self.assertEqual(broken(chain, [ONE] * 2, [1], paper), {"rank from 1 on", "lower rank ahead"})
            tells(self, False, means_hold, chain, [ONE] * 2, [1], paper)
        tells(self, False, means_hold, [[(1, ONE)], [(0, HALF), (2, HALF)], [(2, ONE)]], [NOUGHT] * 3, [2],
              ([NOUGHT] * 3, [0, -1, 0], [None] * 3))

    def test_a_room_with_a_rank_has_a_way_into_a_room_of_a_lower_one(self):
        chain = [[(1, ONE)], [(0, HALF), (2, HALF)], [(2, ONE)]]
        for levels in ([1, 1, 0], [1, 2, 0], [5, 5, 0]):
            self.fails("lower rank ahead", chain, [ONE] * 3, [2], ([(4, 1), (3, 1), NOUGHT], levels, [None] * 3))
        # Rooms from which one never comes to a mark, told to do so with values that keep to the rows.
        for value in (NOUGHT, ONE, (7, 2)):
            shut = [[(1, ONE)], [(0, ONE)], [(2, ONE)]]
            self.fails("lower rank ahead", shut, [NOUGHT] * 3, [2], ([value, value, NOUGHT], [2, 1, 0], [None] * 3))
            self.fails("lower rank ahead", ALONE, [NOUGHT], [], ([value], [1], [None]))

    def test_rank_none_is_no_lower_rank(self):
        chain = [[(0, HALF), (1, HALF)], [(1, ONE)], [(2, ONE)]]
        self.fails("lower rank ahead", chain, [ONE] * 3, [2], ([None, None, NOUGHT], [1, None, 0], [1, 0, None]))

    def test_a_room_with_a_rank_and_a_fall_has_a_fall_from_1_on(self):
        # As with the ranks, this is never broken alone: the lowest of such rooms has no lower fall ahead.
        for wrong in (0, -1, -10 ** 30):
            paper = ([None, None, None, NOUGHT, (2, 1)], [1, 1, None, 0, 1], [2, wrong, 0, None, None])
            tells(self, False, means_hold, FORK, [ONE] * 5, [3], paper)
            self.assertIn("fall from 1 on", broken(FORK, [ONE] * 5, [3], paper))
        # Here one does come to the mark, yet falls told throughout would hide the mean.
        chain = [[(0, HALF), (1, HALF)], [(1, ONE)]]
        for wrong in (0, -1):
            paper = ([None, NOUGHT], [1, 0], [wrong, None])
            self.assertEqual(broken(chain, [ONE] * 2, [1], paper), {"fall from 1 on", "lower fall ahead"})
            tells(self, False, means_hold, chain, [ONE] * 2, [1], paper)

    def test_a_room_with_a_fall_has_a_way_into_a_room_of_a_lower_one(self):
        values, levels = FORK_PAPER[:2]
        for wrong in ([1, 1, 0, None, None], [2, 2, 0, None, None], [2, 3, 0, None, None]):
            self.fails("lower fall ahead", FORK, [ONE] * 5, [3], (values, levels, wrong))
        # Rooms from which one comes to the mark for sure, told to have a fall.
        ways = [[(1, ONE)], [(0, HALF), (2, HALF)], [(2, ONE)]]
        self.fails("lower fall ahead", ways, [ONE] * 3, [2], ([None, None, NOUGHT], [2, 1, 0], [2, 1, None]))
        self.fails("lower fall ahead", ways, [ONE] * 3, [2], ([None, None, NOUGHT], [2, 1, 0], [1, 2, None]))
        self.fails("lower fall ahead", [[(0, HALF), (1, HALF)], [(1, ONE)]], [ONE] * 2, [1],
                   ([None, NOUGHT], [1, 0], [1, None]))

    def test_fall_none_is_no_lower_fall(self):
        chain = [[(1, HALF), (2, HALF)], [(2, ONE)], [(2, ONE)]]
        self.fails("lower fall ahead", chain, [ONE] * 3, [2], ([None, ONE, NOUGHT], [1, 1, 0], [1, None, None]))

    def test_a_room_without_a_fall_leads_into_rooms_without_one_alone(self):
        # The sum can not be told there, and whatever value stands in its place does not hold.
        chain = [[(1, HALF), (2, HALF)], [(1, ONE)], [(2, ONE)]]
        for value in (NOUGHT, ONE, HALF, None):
            paper = ([value, None, NOUGHT], [1, None, 0], [None, 0, None])
            self.assertEqual(broken(chain, [ONE] * 3, [2], paper), {"no fall ahead", "value sum"})
            tells(self, False, means_hold, chain, [ONE] * 3, [2], paper)
        # Nor where the room ahead of it has a value, against its own fall.
        paper = ([HALF, NOUGHT, NOUGHT], [1, None, 0], [None, 0, None])
        self.assertEqual(broken(chain, [HALF] * 3, [2], paper), {"no fall ahead", "value none"})
        tells(self, False, means_hold, chain, [HALF] * 3, [2], paper)

    def test_a_room_with_a_fall_has_value_none(self):
        for wrong in (NOUGHT, ONE, (-1, 2), (1, 10 ** 30)):
            self.fails("value none", ALONE, [ONE], [], ([wrong], [None], [0]))
            self.fails("value none", ALONE, [NOUGHT], [], ([wrong], [None], [0]))
            for room in (0, 1, 2):
                values = list(FORK_PAPER[0])
                values[room] = wrong
                self.fails("value none", FORK, [ONE] * 5, [3], (values, FORK_PAPER[1], FORK_PAPER[2]))

    def test_a_room_without_a_fall_has_a_value(self):
        self.fails("value sum", FORK, [ONE] * 5, [3], ([None, None, None, NOUGHT, None], FORK_PAPER[1], FORK_PAPER[2]))
        chain = [[(1, ONE)], [(2, ONE)], [(2, ONE)]]
        for values in ([None, ONE, NOUGHT], [(2, 1), None, NOUGHT], [None, None, NOUGHT]):
            self.fails("value sum", chain, [ONE] * 3, [2], (values, [2, 1, 0], [None] * 3))
            # The same with the rooms numbered the other way round.
            self.fails("value sum", [[(0, ONE)], [(0, ONE)], [(1, ONE)]], [ONE] * 3, [0],
                       (values[::-1], [0, 1, 2], [None] * 3))

    def test_the_value_is_the_cost_and_the_weighed_sum(self):
        chain = [[(0, HALF), (1, HALF)], [(1, ONE)]]
        for wrong in (NOUGHT, ONE, (3, 1), (-2, 1), (2 * 10 ** 30 + 1, 10 ** 30)):
            self.fails("value sum", chain, [ONE] * 2, [1], ([wrong, NOUGHT], [1, 0], [None] * 2))
            self.fails("value sum", FORK, [ONE] * 5, [3],
                       ([None, None, None, NOUGHT, wrong], FORK_PAPER[1], FORK_PAPER[2]))
        # The paper of other costs, and that of the marks of another question.
        for costs in ([NOUGHT] * 2, [HALF, ONE], [(2, 1), NOUGHT]):
            self.fails("value sum", chain, costs, [1], ([(2, 1), NOUGHT], [1, 0], [None] * 2))
        self.holds(chain, [ONE, (5, 1)], [1], ([(2, 1), NOUGHT], [1, 0], [None] * 2))
        values = [(room * (9 - room), 1) for room in range(10)]
        levels = [0, 1, 2, 3, 4, 4, 3, 2, 1, 0]
        self.holds(line(10, HALF), [ONE] * 10, [0, 9], (values, levels, [None] * 10))
        values[8] = (7, 1)
        self.fails("value sum", line(10, HALF), [ONE] * 10, [0, 9], (values, levels, [None] * 10))

    def test_long_values(self):
        far = 10 ** 1999
        full = [uneven_row(list(range(10))) for room in range(10)]
        awkward = [(1, far + room) for room in range(9)] + [NOUGHT]
        self.assertIs(means_hold(full, [ONE] * 10, [9], (awkward, [1] * 9 + [0], [None] * 10)), False)
        near = [fraction(room * (9 - room) * far + 1, far) for room in range(10)]
        near[0] = near[9] = NOUGHT
        levels = [0, 1, 2, 3, 4, 4, 3, 2, 1, 0]
        self.assertIs(means_hold(line(10, HALF), [ONE] * 10, [0, 9], (near, levels, [None] * 10)), False)

    def check(self, chain, costs, marks, paper):
        answer = means_hold(chain, costs, marks, paper)
        self.assertIs(answer, broken(chain, costs, marks, paper) == set(), (chain, costs, marks, paper))
        if answer:
            self.assertEqual(paper[0], means(chain, costs, marks))

    def test_all_papers_of_some_numbers(self):
        for many, some_values, some_levels, some_drops in (
            (1, (None, NOUGHT, ONE, (-1, 1)), (None, -1, 0, 1, 2), (None, -1, 0, 1, 2)),
            (2, (None, NOUGHT, (3, 2)), (None, 0, 1, 2), (None, 0, 1, 2)),
        ):
            papers = [tuple(list(some) for some in paper) for paper in itertools.product(
                itertools.product(some_values, repeat=many), itertools.product(some_levels, repeat=many),
                itertools.product(some_drops, repeat=many))]
            for chain in chains_of(many):
                for marks, costs in itertools.product(marks_of(many), ([NOUGHT] * many, [ONE] * many)):
                    for paper in papers:
                        self.check(chain, costs, marks, paper)

    def test_all_papers_near_one_that_holds(self):
        for chain, marks in itertools.islice(questions(), 0, None, 20):
            costs = uneven_costs(len(chain))
            told = means_paper(chain, costs, marks)
            for place, others in enumerate(((None, NOUGHT, ONE), (None, 0, 1, 2, 9), (None, 0, 1, 2, 9))):
                for room, other in itertools.product(range(len(chain)), others):
                    wrong = told[place][:room] + [other] + told[place][room + 1:]
                    self.check(chain, costs, marks, told[:place] + (wrong,) + told[place + 1:])


if __name__ == "__main__":
    unittest.main()
