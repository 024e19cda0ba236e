import itertools
import unittest

from chancehouse.roads import falls, ranks, road
from helper import questions, tells

ONE = (1, 1)
HALF = (1, 2)
THIRD = (1, 3)
# 0 leads on to 1 or back into itself, 1 to 2 or into the trap 3; 4 leads to 0 and 2, 5 to 3.
HALL = [[(0, HALF), (1, HALF)], [(2, THIRD), (3, (2, 3))], [(0, ONE)], [(3, ONE)],
        [(0, HALF), (2, HALF)], [(3, ONE)]]
ALONE = [[(0, ONE)]]
RING = [[((room + 1) % 10, ONE)] for room in range(10)]
# From each room one comes to all rooms not above the next one.
STAIRS = [[(target, (1, min(room + 2, 10))) for target in range(min(room + 2, 10))] for room in range(10)]


def first_after(chain, room, ends, shut):
    """After how many ways one can be in an end first, told by going ahead from the room."""
    rooms = {room} - set(shut)
    for ways in range(len(chain) + 1):
        if rooms & set(ends):
            return ways
        rooms = {target for one in rooms for target, chance in chain[one]} - set(shut)
    return None


def all_ranks(chain, marks):
    return [first_after(chain, room, marks, []) for room in range(len(chain))]


def all_falls(chain, marks):
    lost = [room for room, rank in enumerate(all_ranks(chain, marks)) if rank is None]
    return [first_after(chain, room, lost, marks) for room in range(len(chain))]


def all_roads(chain, start, many):
    roads = [[start]]
    for way in range(many):
        roads = [one + [target] for one in roads for target, chance in chain[one[-1]]]
    return roads


class Ranks(unittest.TestCase):
    def test_ordinary_chains(self):
        tells(self, [2, 1, 0, None, 1, None], ranks, HALL, [2])
        tells(self, [0, 2, 1, None, 1, None], ranks, HALL, [0])
        tells(self, [2, 1, 3, 0, 3, 1], ranks, HALL, [3])
        tells(self, [1, 0, 0, None, 1, None], ranks, HALL, [1, 2])
        tells(self, [None, None, None, None, None, 0], ranks, HALL, [5])

    def test_no_marks(self):
        tells(self, [None] * 6, ranks, HALL, [])
        tells(self, [None] * 10, ranks, RING, [])

    def test_all_rooms_marked(self):
        tells(self, [0] * 6, ranks, HALL, list(range(6)))
        tells(self, [0] * 10, ranks, RING, list(range(10)))

    def test_one_room(self):
        tells(self, [0], ranks, ALONE, [0])
        tells(self, [None], ranks, ALONE, [])

    def test_ten_rooms(self):
        tells(self, [9, 8, 7, 6, 5, 4, 3, 2, 1, 0], ranks, RING, [9])
        tells(self, [0, 9, 8, 7, 6, 5, 4, 3, 2, 1], ranks, RING, [0])
        tells(self, [4, 3, 2, 1, 0, 5, 4, 3, 2, 1], ranks, RING[:9] + [[(4, ONE)]], [4])
        tells(self, [9, 8, 7, 6, 5, 4, 3, 2, 1, 0], ranks, STAIRS, [9])
        tells(self, [0] + [1] * 9, ranks, STAIRS, [0])

    def test_ways_back_into_the_same_room_lead_nowhere_else(self):
        tells(self, [0, None], ranks, [[(0, ONE)], [(1, ONE)]], [0])
        tells(self, [0, 1], ranks, [[(0, ONE)], [(0, THIRD), (1, (2, 3))]], [0])

    def test_a_way_through_marks_counts_to_the_first(self):
        tells(self, [1, 0, 0], ranks, [[(1, ONE)], [(2, ONE)], [(2, ONE)]], [1, 2])

    def test_all_questions(self):
        for chain, marks in questions():
            self.assertEqual(ranks(chain, marks), all_ranks(chain, marks), (chain, marks))


class Falls(unittest.TestCase):
    def test_ordinary_chains(self):
        tells(self, [2, 1, None, 0, 3, 0], falls, HALL, [2])
        tells(self, [None, 1, None, 0, None, 0], falls, HALL, [0])
        tells(self, [None] * 6, falls, HALL, [3])
        tells(self, [None, None, None, 0, None, 0], falls, HALL, [1, 2])
        tells(self, [0, 0, 0, 0, 0, None], falls, HALL, [5])

    def test_no_marks(self):
        tells(self, [0] * 6, falls, HALL, [])
        tells(self, [0] * 10, falls, RING, [])

    def test_all_rooms_marked(self):
        tells(self, [None] * 6, falls, HALL, list(range(6)))
        tells(self, [None] * 10, falls, STAIRS, list(range(10)))

    def test_one_room(self):
        tells(self, [None], falls, ALONE, [0])
        tells(self, [0], falls, ALONE, [])

    def test_ten_rooms(self):
        line = [[(room - 1, HALF), (room + 1, HALF)] for room in range(1, 9)]
        line = [[(0, ONE)]] + line + [[(9, ONE)]]
        tells(self, list(range(9)) + [None], falls, line, [9])
        tells(self, [None, 8, 7, 6, 5, 4, 3, 2, 1, 0], falls, line, [0])
        tells(self, [None] * 10, falls, line, [0, 9])
        tells(self, [0, 1, 2, 3, None, None, None, None, None, None], falls, line, [4, 9])
        tells(self, [None] * 10, falls, RING, [6])

    def test_not_by_way_of_a_mark(self):
        chain = [[(1, ONE)], [(2, ONE)], [(2, ONE)]]
        tells(self, [None, None, 0], falls, chain, [1])
        longer = [[(1, HALF), (2, HALF)], [(4, ONE)], [(1, HALF), (3, HALF)], [(1, HALF), (4, HALF)], [(4, ONE)]]
        tells(self, [3, None, 2, 1, 0], falls, longer, [1])

    def test_all_questions(self):
        for chain, marks in questions():
            self.assertEqual(falls(chain, marks), all_falls(chain, marks), (chain, marks))


class Road(unittest.TestCase):
    def test_ordinary_chains(self):
        tells(self, [0, 1, 2], road, HALL, 0, [2])
        tells(self, [4, 2], road, HALL, 4, [2])
        tells(self, [4, 0, 1, 3], road, HALL, 4, [3])
        tells(self, [2, 0, 1], road, HALL, 2, [1, 3])
        tells(self, None, road, HALL, 3, [2])
        tells(self, None, road, HALL, 5, [0, 1, 2])

    def test_at_a_mark_that_room_alone(self):
        tells(self, [2], road, HALL, 2, [2])
        tells(self, [3], road, HALL, 3, [0, 3])
        tells(self, [0], road, ALONE, 0, [0])
        for start in range(10):
            tells(self, [start], road, RING, start, list(range(10)))

    def test_no_marks(self):
        tells(self, None, road, ALONE, 0, [])
        for start in range(10):
            tells(self, None, road, STAIRS, start, [])

    def test_the_least_of_the_rooms_with_a_rank_lower_by_one(self):
        fan = [[(1, (1, 4)), (2, (1, 4)), (3, HALF)], [(1, ONE)], [(4, HALF), (5, HALF)], [(5, ONE)],
               [(4, ONE)], [(5, ONE)]]
        tells(self, [0, 2, 4], road, fan, 0, [4, 5])
        tells(self, [0, 2, 5], road, fan, 0, [5])
        tells(self, [0, 2, 4], road, fan, 0, [4])
        tells(self, [0, 3], road, fan, 0, [3, 4])

    def test_a_lesser_room_that_is_no_nearer_is_not_taken(self):
        tells(self, [2, 3], road, [[(2, ONE)], [(0, ONE)], [(0, HALF), (1, (1, 4)), (3, (1, 4))], [(3, ONE)]],
              2, [3])
        tells(self, [1, 2], road, [[(0, ONE)], [(0, HALF), (1, (1, 4)), (2, (1, 4))], [(0, ONE)]], 1, [2])

    def test_ten_rooms(self):
        tells(self, list(range(10)), road, RING, 0, [9])
        tells(self, [5, 6, 7, 8, 9, 0, 1, 2, 3, 4], road, RING, 5, [4])
        tells(self, list(range(10)), road, STAIRS, 0, [9])
        tells(self, [9, 0], road, STAIRS, 9, [0])
        fan = [[(9, ONE)]] + [[(0, ONE)] for room in range(1, 9)] + [[(room, (1, 9)) for room in range(1, 10)]]
        tells(self, [9, 1, 0], road, fan, 9, [0])

    def test_all_questions(self):
        for chain, marks in itertools.islice(questions(), 0, None, 3):
            for start, rank in enumerate(all_ranks(chain, marks)):
                expected = None
                if rank is not None:
                    # Of the shortest roads, the one whose rooms are least from the left.
                    expected = min(one for one in all_roads(chain, start, rank) if one[-1] in marks)
                self.assertEqual(road(chain, start, marks), expected, (chain, start, marks))


if __name__ == "__main__":
    unittest.main()
