import fractions
import itertools
import unittest

from chancehouse.ever import ever
from chancehouse.exact import fraction, minus, plus, times, total
from chancehouse.roads import road
from chancehouse.rows import halted, is_chain, stepped
from chancehouse.steps import first_at, road_chance, spread, within
from helper import (
    ALONE, HALF, HALL, NOUGHT, ONE, THIRD, as_fraction, as_pair, chains_of, is_fraction, line, long_chain,
    marks_of, questions, ring, tells,
)


def at(many, *rooms):
    return [ONE if room in rooms else NOUGHT for room in range(many)]


def chance_by_hand(chain, rooms):
    chance = fractions.Fraction(1)
    for one, other in zip(rooms, rooms[1:]):
        chance *= sum(as_fraction(chance) for room, chance in chain[one] if room == other)
    return chance


def roads_from(chain, start, steps):
    return [(start,) + rest for rest in itertools.product(range(len(chain)), repeat=steps)]


def added_up(chain, start, steps, counts):
    """The chances of all roads of so many steps that count, added up."""
    return as_pair(sum(chance_by_hand(chain, rooms) for rooms in roads_from(chain, start, steps) if counts(rooms)))


def weighed_step(chain, values, kept):
    """What the values come to a step earlier, but at the rooms that keep one."""
    return [kept[room] if room in kept else sum(as_fraction(chance) * values[target] for target, chance in row)
            for room, row in enumerate(chain)]


def by_steps(chain, marks, steps, kept_at_marks):
    values = [fractions.Fraction(room in marks) for room in range(len(chain))]
    for step in range(steps):
        values = weighed_step(chain, values, {room: fractions.Fraction(kept_at_marks) for room in marks})
    return [as_pair(value) for value in values]


class Spread(unittest.TestCase):
    def test_no_step(self):
        for start in range(5):
            tells(self, at(5, start), spread, HALL, start, 0)

    def test_ordinary_chains(self):
        tells(self, [HALF, HALF, NOUGHT, NOUGHT, NOUGHT], spread, HALL, 0, 1)
        tells(self, [(1, 4), (1, 4), (1, 6), THIRD, NOUGHT], spread, HALL, 0, 2)
        tells(self, [(7, 24), (1, 8), (1, 12), HALF, NOUGHT], spread, HALL, 0, 3)
        tells(self, [NOUGHT, NOUGHT, THIRD, (2, 3), NOUGHT], spread, HALL, 1, 1)
        tells(self, [(3, 4), (1, 4), NOUGHT, NOUGHT, NOUGHT], spread, HALL, 4, 2)

    def test_one_room(self):
        for steps in (0, 1, 2, 39, 40):
            tells(self, [ONE], spread, ALONE, 0, steps)

    def test_rows_of_one_way(self):
        for start in range(10):
            for steps in (0, 1, 9, 10, 11, 39, 40):
                tells(self, at(10, (start + steps) % 10), spread, ring(10), start, steps)
        tells(self, at(3, 2), spread, [[(1, ONE)], [(2, ONE)], [(2, ONE)]], 0, 40)

    def test_ways_back_into_the_same_room(self):
        chain = [[(0, (2, 3)), (1, THIRD)], [(1, ONE)]]
        for steps in (1, 2, 7, 40):
            left = fraction(2 ** steps, 3 ** steps)
            tells(self, [left, minus(ONE, left)], spread, chain, 0, steps)
            tells(self, [NOUGHT, ONE], spread, chain, 1, steps)

    def test_forty_steps_up_and_down(self):
        # The chances after 40 steps on a round of four rooms that are left either way.
        chain = [[(1, HALF), (3, HALF)], [(0, HALF), (2, HALF)], [(1, HALF), (3, HALF)], [(0, HALF), (2, HALF)]]
        tells(self, [HALF, NOUGHT, HALF, NOUGHT], spread, chain, 0, 40)
        tells(self, [NOUGHT, HALF, NOUGHT, HALF], spread, chain, 0, 39)

    def test_rooms_that_are_never_come_to(self):
        self.assertEqual(spread(HALL, 0, 40)[4], NOUGHT)
        tells(self, at(5, 3), spread, HALL, 3, 40)

    def test_all_roads_of_small_chains(self):
        for many, most in ((1, 4), (2, 4), (3, 3)):
            for chain in chains_of(many)[::1 if many < 3 else 7]:
                for start, steps in itertools.product(range(many), range(most + 1)):
                    expected = [added_up(chain, start, steps, lambda rooms: rooms[-1] == room) for room in range(many)]
                    self.assertEqual(spread(chain, start, steps), expected, (chain, start, steps))

    def test_each_step_is_a_step_further(self):
        for chain, marks in itertools.islice(questions(), 0, None, 40):
            for start in range(len(chain)):
                told = at(len(chain), start)
                for steps in range(6):
                    self.assertEqual(spread(chain, start, steps), told, (chain, start, steps))
                    self.assertTrue(all(is_fraction(one) for one in told))
                    self.assertEqual(total(told), ONE)
                    told = stepped(chain, told)

    def test_forty_steps_of_ten_rooms_with_long_numbers(self):
        chain = long_chain(10)
        told = [fractions.Fraction(room == 3) for room in range(10)]
        for step in range(40):
            told = [sum(told[room] * as_fraction(chain[room][target][1]) for room in range(10)) for target in range(10)]
        tells(self, [as_pair(one) for one in told], spread, chain, 3, 40)

    def test_somewhat_more_than_forty_steps(self):
        self.assertEqual(spread(ring(10), 0, 57), at(10, 7))


class Within(unittest.TestCase):
    def test_no_step(self):
        for marks in marks_of(5):
            tells(self, at(5, *marks), within, HALL, marks, 0)

    def test_ordinary_chains(self):
        tells(self, [NOUGHT, THIRD, ONE, NOUGHT, HALF], within, HALL, [2], 1)
        tells(self, [(1, 6), THIRD, ONE, NOUGHT, HALF], within, HALL, [2], 2)
        tells(self, [(1, 4), THIRD, ONE, NOUGHT, (7, 12)], within, HALL, [2], 3)
        tells(self, [HALF, ONE, ONE, ONE, HALF], within, HALL, [2, 3], 2)
        tells(self, [(3, 4), ONE, ONE, ONE, (3, 4)], within, HALL, [2, 3], 3)
        tells(self, [ONE, THIRD, ONE, NOUGHT, ONE], within, HALL, [0], 2)

    def test_no_marks(self):
        for steps in (0, 1, 40):
            tells(self, [NOUGHT] * 5, within, HALL, [], steps)
            tells(self, [NOUGHT], within, ALONE, [], steps)
            tells(self, [NOUGHT] * 10, within, ring(10), [], steps)

    def test_all_rooms_marked(self):
        for steps in (0, 1, 40):
            tells(self, [ONE] * 5, within, HALL, [0, 1, 2, 3, 4], steps)
            tells(self, [ONE], within, ALONE, [0], steps)
            tells(self, [ONE] * 10, within, ring(10), list(range(10)), steps)

    def test_rows_of_one_way(self):
        for steps in range(12):
            tells(self, [ONE if (4 - room) % 10 <= steps else NOUGHT for room in range(10)],
                  within, ring(10), [4], steps)

    def test_a_mark_that_is_left_again_stays_come_to(self):
        tells(self, [ONE, ONE, NOUGHT], within, [[(1, ONE)], [(2, ONE)], [(2, ONE)]], [1], 2)
        tells(self, [ONE, ONE, NOUGHT], within, [[(1, ONE)], [(2, ONE)], [(2, ONE)]], [1], 40)

    def test_ways_back_into_the_same_room(self):
        for steps in (1, 2, 7, 40):
            left = fraction(2 ** steps, 3 ** steps)
            tells(self, [minus(ONE, left), ONE], within, [[(0, (2, 3)), (1, THIRD)], [(1, ONE)]], [1], steps)
            tells(self, [NOUGHT, ONE], within, [[(0, ONE)], [(0, ONE)]], [1], steps)

    def test_all_roads_of_small_chains(self):
        for many, most in ((1, 4), (2, 4), (3, 3)):
            for chain in chains_of(many)[::1 if many < 3 else 29]:
                for marks, steps in itertools.product(marks_of(many), range(most + 1)):
                    expected = [added_up(chain, start, steps, lambda rooms: any(room in marks for room in rooms))
                                for start in range(many)]
                    self.assertEqual(within(chain, marks, steps), expected, (chain, marks, steps))

    def test_all_questions(self):
        for chain, marks in itertools.islice(questions(), 0, None, 10):
            for steps in (0, 1, 2, 5, 12):
                self.assertEqual(within(chain, marks, steps), by_steps(chain, marks, steps, 1), (chain, marks, steps))

    def test_forty_steps_of_ten_rooms_with_long_numbers(self):
        chain = long_chain(10)
        tells(self, by_steps(chain, [2, 7], 40, 1), within, chain, [2, 7], 40)

    def test_it_agrees_with_ever_and_the_spread(self):
        for chain, marks in itertools.islice(questions(), 0, None, 15):
            values = ever(chain, marks)
            shut = halted(chain, marks)
            for steps in (0, 1, 2, 7):
                soon = within(chain, marks, steps)
                for start in range(len(chain)):
                    there = spread(shut, start, steps)
                    under_way = [times(there[room], values[room]) for room in range(len(chain)) if room not in marks]
                    self.assertEqual(plus(soon[start], total(under_way)), values[start], (chain, marks, start, steps))
                    self.assertEqual(total([there[room] for room in marks]), soon[start])

    def test_it_agrees_with_ever_and_the_spread_after_forty_steps(self):
        for chain, marks in ((line(10, THIRD), [9]), (line(10, HALF), [0, 9]), (HALL, [2]), (ring(10), [4])):
            values, soon = ever(chain, marks), within(chain, marks, 40)
            for start in range(len(chain)):
                there = spread(halted(chain, marks), start, 40)
                under_way = [times(there[room], values[room]) for room in range(len(chain)) if room not in marks]
                self.assertEqual(plus(soon[start], total(under_way)), values[start])


class First(unittest.TestCase):
    def test_no_step(self):
        for marks in marks_of(5):
            tells(self, at(5, *marks), first_at, HALL, marks, 0)

    def test_ordinary_chains(self):
        tells(self, [NOUGHT, THIRD, NOUGHT, NOUGHT, HALF], first_at, HALL, [2], 1)
        tells(self, [(1, 6), NOUGHT, NOUGHT, NOUGHT, NOUGHT], first_at, HALL, [2], 2)
        tells(self, [(1, 12), NOUGHT, NOUGHT, NOUGHT, (1, 12)], first_at, HALL, [2], 3)
        tells(self, [HALF, NOUGHT, NOUGHT, NOUGHT, NOUGHT], first_at, HALL, [2, 3], 2)
        tells(self, [(1, 4), NOUGHT, NOUGHT, NOUGHT, (1, 4)], first_at, HALL, [2, 3], 3)
        tells(self, [NOUGHT, THIRD, NOUGHT, NOUGHT, HALF], first_at, HALL, [0], 2)

    def test_at_a_mark_0_after_more_than_no_step(self):
        for steps in (1, 2, 40):
            tells(self, [NOUGHT], first_at, ALONE, [0], steps)
            tells(self, [NOUGHT] * 5, first_at, HALL, [0, 1, 2, 3, 4], steps)
            tells(self, [NOUGHT] * 10, first_at, ring(10), list(range(10)), steps)
            tells(self, NOUGHT, lambda *given: first_at(*given)[4], ring(10), [4], steps)

    def test_no_marks(self):
        for steps in (0, 1, 40):
            tells(self, [NOUGHT] * 5, first_at, HALL, [], steps)
            tells(self, [NOUGHT], first_at, ALONE, [], steps)

    def test_rows_of_one_way(self):
        for steps in range(10):
            tells(self, at(10, (4 - steps) % 10), first_at, ring(10), [4], steps)
        for steps in (10, 14, 20, 40):
            tells(self, [NOUGHT] * 10, first_at, ring(10), [4], steps)

    def test_ways_back_into_the_same_room(self):
        for steps in (1, 2, 7, 40):
            tells(self, [fraction(2 ** (steps - 1), 3 ** steps), NOUGHT], first_at,
                  [[(0, (2, 3)), (1, THIRD)], [(1, ONE)]], [1], steps)

    def test_all_roads_of_small_chains(self):
        for many, most in ((1, 4), (2, 4), (3, 3)):
            for chain in chains_of(many)[::1 if many < 3 else 29]:
                for marks, steps in itertools.product(marks_of(many), range(most + 1)):
                    expected = [added_up(chain, start, steps, lambda rooms: rooms[-1] in marks
                                         and not any(room in marks for room in rooms[:-1])) for start in range(many)]
                    self.assertEqual(first_at(chain, marks, steps), expected, (chain, marks, steps))

    def test_all_questions(self):
        for chain, marks in itertools.islice(questions(), 0, None, 10):
            for steps in (0, 1, 2, 5, 12):
                self.assertEqual(first_at(chain, marks, steps), by_steps(chain, marks, steps, 0), (chain, marks, steps))

    def test_forty_steps_of_ten_rooms_with_long_numbers(self):
        chain = long_chain(10)
        tells(self, by_steps(chain, [2, 7], 40, 0), first_at, chain, [2, 7], 40)

    def test_first_added_up_is_within(self):
        for chain, marks in itertools.islice(questions(), 0, None, 60):
            added = [NOUGHT] * len(chain)
            for steps in range(8):
                added = [plus(one, other) for one, other in zip(added, first_at(chain, marks, steps))]
                self.assertEqual(added, within(chain, marks, steps), (chain, marks, steps))


class RoadChance(unittest.TestCase):
    def test_ordinary_roads(self):
        tells(self, HALF, road_chance, HALL, [0, 1])
        tells(self, THIRD, road_chance, HALL, [1, 2])
        tells(self, (1, 12), road_chance, HALL, [4, 0, 1, 2])
        tells(self, (1, 6), road_chance, HALL, [4, 2, 0, 1, 3])
        tells(self, (1, 12), road_chance, HALL, [0, 1, 2, 0, 1])

    def test_one_room(self):
        tells(self, ONE, road_chance, ALONE, [0])
        for room in range(5):
            tells(self, ONE, road_chance, HALL, [room])

    def test_ways_back_into_the_same_room(self):
        tells(self, (1, 8), road_chance, HALL, [0, 0, 0, 0])
        tells(self, ONE, road_chance, HALL, [3, 3])
        tells(self, ONE, road_chance, ALONE, [0, 0, 0])

    def test_no_such_way(self):
        tells(self, NOUGHT, road_chance, HALL, [2, 2])
        tells(self, NOUGHT, road_chance, HALL, [0, 2])
        tells(self, NOUGHT, road_chance, HALL, [1, 0])
        tells(self, NOUGHT, road_chance, HALL, [3, 0, 1, 2])
        tells(self, NOUGHT, road_chance, HALL, [0, 1, 0, 1])
        tells(self, NOUGHT, road_chance, HALL, [0, 0, 1, 4])
        tells(self, NOUGHT, road_chance, HALL, [0, 4])

    def test_fifty_rooms(self):
        tells(self, ONE, road_chance, ring(10), [room % 10 for room in range(50)])
        tells(self, ONE, road_chance, ALONE, [0] * 50)
        tells(self, (1, 2 ** 49), road_chance, HALL, [0] * 50)
        tells(self, (1, 3 * 2 ** 48), road_chance, HALL, [0] * 48 + [1, 2])
        tells(self, NOUGHT, road_chance, ring(10), [room % 10 for room in range(49)] + [8])
        tells(self, NOUGHT, road_chance, ring(10), [1] + [room % 10 for room in range(49)])

    def test_fifty_rooms_with_long_numbers(self):
        chain = long_chain(10)
        rooms = [(room * room + 3 * room) % 10 for room in range(50)]
        tells(self, as_pair(chance_by_hand(chain, rooms)), road_chance, chain, rooms)

    def test_long_chances_that_cancel(self):
        far = 10 ** 100
        chain = [[(0, (1, far)), (1, (far - 1, far))], [(0, fraction(far, far + 7)), (1, fraction(7, far + 7))]]
        self.assertTrue(is_chain(chain))
        rooms = [0, 1] * 25
        tells(self, as_pair(chance_by_hand(chain, rooms)), road_chance, chain, rooms)

    def test_all_small_roads(self):
        for many, longest in ((1, 4), (2, 4), (3, 3)):
            for chain in chains_of(many)[::1 if many < 3 else 7]:
                for steps in range(longest):
                    for rooms in itertools.product(range(many), repeat=steps + 1):
                        told = road_chance(chain, list(rooms))
                        self.assertEqual(told, as_pair(chance_by_hand(chain, rooms)), (chain, rooms))

    def test_the_road_to_the_marks_has_a_chance(self):
        for chain, marks in itertools.islice(questions(), 0, None, 25):
            for start in range(len(chain)):
                rooms = road(chain, start, marks)
                if rooms is not None:
                    self.assertNotEqual(road_chance(chain, rooms), NOUGHT)


if __name__ == "__main__":
    unittest.main()
