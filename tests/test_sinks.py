import itertools
import math
import unittest

from chancehouse.sinks import sinks, turns
from helper import chains_of, ring, some_chains, tells

ONE = (1, 1)
HALF = (1, 2)
THIRD = (1, 3)
ALONE = [[(0, ONE)]]


def ring_with(many, start, target):
    """A ring with one more way."""
    chain = ring(many)
    chain[start] = sorted(chain[start] + [(target, ONE)])
    chain[start] = [(room, HALF) for room, chance in chain[start]]
    return chain


def reached(chain, start):
    """The rooms to which one comes from the start in one or more steps."""
    rooms, last = {room for room, chance in chain[start]}, None
    while rooms != last:
        last = rooms
        rooms = rooms | {room for one in rooms for room, chance in chain[one]}
    return rooms


def is_sink(chain, rooms):
    return all(reached(chain, room) == set(rooms) for room in rooms)


def all_sinks(chain):
    many = len(chain)
    return sorted(list(rooms) for size in range(1, many + 1)
                  for rooms in itertools.combinations(range(many), size) if is_sink(chain, rooms))


def round_lengths(chain, sink):
    """The lengths, up to the number of rooms, of ways that come back to where they began."""
    lengths = []
    for start in sink:
        rooms = {start}
        for length in range(1, len(sink) + 1):
            rooms = {target for room in rooms for target, chance in chain[room]}
            if start in rooms:
                lengths.append(length)
    return lengths


class Sinks(unittest.TestCase):
    def test_ordinary_chains(self):
        tells(self, [[1]], sinks, [[(0, HALF), (1, HALF)], [(1, ONE)]])
        tells(self, [[0], [2]], sinks, [[(0, ONE)], [(0, HALF), (2, HALF)], [(2, ONE)]])
        tells(self, [[1, 3], [2, 4]], sinks,
              [[(1, HALF), (2, HALF)], [(3, ONE)], [(2, HALF), (4, HALF)], [(1, ONE)], [(2, ONE)]])
        tells(self, [[0, 4], [1, 2]], sinks,
              [[(4, ONE)], [(2, ONE)], [(1, HALF), (2, HALF)], [(0, THIRD), (1, (2, 3))], [(0, ONE)]])

    def test_one_room(self):
        tells(self, [[0]], sinks, ALONE)

    def test_rooms_that_stay(self):
        tells(self, [[room] for room in range(10)], sinks, [[(room, ONE)] for room in range(10)])

    def test_ten_rooms(self):
        tells(self, [list(range(10))], sinks, ring(10))
        tells(self, [list(range(10))], sinks, [[(room, (1, 10)) for room in range(10)]] * 10)
        tells(self, [[9]], sinks, ring(10)[:9] + [[(9, ONE)]])
        tells(self, [[0]], sinks, [[(max(room - 1, 0), ONE)] for room in range(10)])
        tells(self, [[0, 9], [1, 8], [2, 7], [3, 6], [4, 5]], sinks, [[(9 - room, ONE)] for room in range(10)])
        tells(self, [[5, 6, 7, 8, 9]], sinks, ring(10)[:9] + [[(5, ONE)]])

    def test_a_way_out_however_rare(self):
        rare = [(0, (10 ** 9 - 2, 10 ** 9 - 1)), (1, (1, 10 ** 9 - 1))]
        tells(self, [[1]], sinks, [rare, [(1, ONE)]])
        tells(self, [[0, 1]], sinks, [rare, [(0, ONE)]])

    def test_a_ring_with_a_way_out_is_none(self):
        tells(self, [[2]], sinks, [[(1, ONE)], [(0, HALF), (2, HALF)], [(2, ONE)]])

    def test_all_small_chains_and_some_larger_ones(self):
        for many in (1, 2, 3):
            for chain in chains_of(many):
                tells(self, all_sinks(chain), sinks, chain)
        for many in (4, 5, 6, 7):
            for chain in some_chains(many, 200):
                self.assertEqual(sinks(chain), all_sinks(chain), chain)


class Turns(unittest.TestCase):
    def test_rings(self):
        for many in range(1, 11):
            tells(self, (many, list(range(many))), turns, ring(many), list(range(many)))

    def test_a_ring_backwards(self):
        tells(self, (10, [0, 9, 8, 7, 6, 5, 4, 3, 2, 1]), turns, [[((room - 1) % 10, ONE)] for room in range(10)],
              list(range(10)))
        tells(self, (3, [0, 2, 1]), turns, [[(2, ONE)], [(0, ONE)], [(1, ONE)]], [0, 1, 2])

    def test_one_room(self):
        tells(self, (1, [0]), turns, ALONE, [0])
        tells(self, (1, [0]), turns, [[(1, ONE)], [(1, ONE)]], [1])

    def test_a_way_back_into_the_same_room(self):
        for room in range(10):
            tells(self, (1, [0] * 10), turns, ring_with(10, room, room), list(range(10)))

    def test_two_rounds(self):
        tells(self, (2, [0, 1] * 5), turns, ring_with(10, 3, 0), list(range(10)))
        tells(self, (1, [0] * 10), turns, ring_with(10, 2, 0), list(range(10)))
        tells(self, (5, [0, 1, 2, 3, 4] * 2), turns, ring_with(10, 4, 0), list(range(10)))
        tells(self, (3, [0, 1, 2] * 3), turns, ring_with(9, 8, 3), list(range(9)))
        tells(self, (4, [0, 1, 2, 3] * 2), turns, ring_with(8, 0, 5), list(range(8)))

    def test_rounds_of_six_and_ten_have_two_turns(self):
        # The rounds are 0 1 2 3 4 5 and 0 6 7 8 9 1 2 3 4 5.
        chain = [[(1, HALF), (6, HALF)], [(2, ONE)], [(3, ONE)], [(4, ONE)], [(5, ONE)], [(0, ONE)],
                 [(7, ONE)], [(8, ONE)], [(9, ONE)], [(1, ONE)]]
        tells(self, (2, [0, 1, 0, 1, 0, 1, 1, 0, 1, 0]), turns, chain, list(range(10)))

    def test_a_sink_among_other_rooms(self):
        chain = [[(0, HALF), (3, HALF)], [(4, ONE)], [(2, ONE)], [(1, ONE)], [(5, ONE)], [(3, ONE)]]
        tells(self, (4, [0, 3, 1, 2]), turns, chain, [1, 3, 4, 5])
        tells(self, (1, [0]), turns, chain, [2])

    def test_two_halves(self):
        chain = [[(room, (1, 5)) for room in range(10) if room % 2 != start % 2] for start in range(10)]
        tells(self, (2, [0, 1] * 5), turns, chain, list(range(10)))
        halves = [[(room, (1, 5)) for room in range(10) if (room < 5) != (start < 5)] for start in range(10)]
        tells(self, (2, [0] * 5 + [1] * 5), turns, halves, list(range(10)))

    def check(self, chain, sink):
        many, parts = turns(chain, sink)
        self.assertEqual(many, math.gcd(*round_lengths(chain, sink)), (chain, sink))
        self.assertEqual((len(parts), parts[0]), (len(sink), 0))
        part_of = dict(zip(sink, parts))
        for room in sink:
            self.assertIn(part_of[room], range(many))
            for target, chance in chain[room]:
                self.assertEqual(part_of[target], (part_of[room] + 1) % many, (chain, sink))

    def test_all_small_chains_and_some_larger_ones(self):
        seen = {}
        for many in (1, 2, 3, 4, 5, 6, 7, 10):
            for chain in chains_of(many) if many < 4 else some_chains(many, 300):
                for sink in sinks(chain):
                    self.check(chain, sink)
                    seen[turns(chain, sink)[0]] = True
        self.assertTrue({1, 2, 3, 4, 5} <= set(seen), seen)


if __name__ == "__main__":
    unittest.main()
