import fractions
import itertools
import unittest

from chancehouse.ever import ever
from chancehouse.exact import fraction, plus, times, total
from chancehouse.houses import chain_mixed
from chancehouse.rows import stepped, weighed
from chancehouse.sinks import sinks
from chancehouse.stays import shares, stay, stay_holds
from chancehouse.steps import spread
from helper import (
    ALONE, HALF, NOUGHT, ONE, THIRD, as_fraction, as_pair, chains_of, is_fraction, line, long_chain, ring,
    some_chains, tells, uneven_row,
)

PAIR = [[(0, HALF), (1, HALF)], [(0, ONE)]]
# 0 and 3 lead to one another, 4 stays, 2 leads to both sinks and 1 back to 2.
FORK = [[(0, THIRD), (3, (2, 3))], [(2, ONE)], [(0, HALF), (1, (1, 4)), (4, (1, 4))], [(0, ONE)], [(4, ONE)]]


def chains():
    for many in (1, 2, 3):
        yield from chains_of(many)
    for many in (4, 5, 7, 10):
        yield from some_chains(many, 100)


def broken(chain, sink, some):
    """The conditions of point 18 that the list does not keep, each by a name."""
    if len(some) != len(sink):
        return {"one for each room"}
    found = set()
    if sum(as_fraction(one) for one in some) != 1:
        found.add("sum")
    parts = dict(zip(sink, some))
    for room in sink:
        come_in = [as_fraction(parts[other]) * as_fraction(chance) for other in sink
                   for target, chance in chain[other] if target == room]
        if sum(come_in) != as_fraction(parts[room]):
            found.add("step")
    return found


class Stay(unittest.TestCase):
    def test_ordinary_sinks(self):
        tells(self, [(2, 3), THIRD], stay, PAIR, [0, 1])
        tells(self, [(3, 5), (2, 5)], stay, FORK, [0, 3])
        tells(self, [ONE], stay, FORK, [4])
        tells(self, [(2, 5), (1, 5), (2, 5)], stay, [[(1, HALF), (2, HALF)], [(2, ONE)], [(0, ONE)]], [0, 1, 2])

    def test_one_room(self):
        tells(self, [ONE], stay, ALONE, [0])
        for room in range(10):
            tells(self, [ONE], stay, [[(other, ONE)] for other in range(10)], [room])

    def test_rows_of_one_way(self):
        for many in range(1, 11):
            tells(self, [(1, many)] * many, stay, ring(many), list(range(many)))

    def test_a_ring_among_other_rooms(self):
        chain = [[(5, ONE)], [(4, ONE)], [(2, ONE)], [(1, ONE)], [(3, ONE)], [(1, HALF), (2, HALF)]]
        tells(self, [THIRD] * 3, stay, chain, [1, 3, 4])
        tells(self, [ONE], stay, chain, [2])

    def test_ways_back_into_the_same_room(self):
        often = 10 ** 9 - 1
        tells(self, [fraction(often, often + 1), fraction(1, often + 1)], stay,
              [[(0, (often - 1, often)), (1, (1, often))], [(0, ONE)]], [0, 1])

    def test_ten_rooms(self):
        # Left either way but at the ends, from which one comes back: these are come to half as often.
        chain = line(10, HALF)
        chain[0], chain[9] = [(1, ONE)], [(8, ONE)]
        tells(self, [(1, 18)] + [(1, 9)] * 8 + [(1, 18)], stay, chain, list(range(10)))
        # Going up with a third, each next room has half as much.
        chain = line(10, THIRD)
        chain[0], chain[9] = [(0, (2, 3)), (1, THIRD)], [(8, (2, 3)), (9, THIRD)]
        tells(self, [fraction(2 ** (9 - room), 1023) for room in range(10)], stay, chain, list(range(10)))

    def test_rows_that_are_all_alike_are_the_stay(self):
        row = uneven_row(list(range(10)))
        tells(self, [chance for room, chance in row], stay, [list(row) for room in range(10)], list(range(10)))

    def test_long_numbers(self):
        chain = long_chain(10)
        told = stay(chain, list(range(10)))
        self.assertEqual(broken(chain, list(range(10)), told), set())
        tells(self, told, stay, chain, list(range(10)))

    def test_a_chain_under_a_mix(self):
        rows = [long_chain(10), [uneven_row(list(range(10)))] * 10]
        house = [[(ONE, rows[0][room]), (ONE, rows[1][room])] for room in range(10)]
        chain = chain_mixed(house, [[(10 ** 8, 10 ** 9 - 1), (9 * 10 ** 8 - 1, 10 ** 9 - 1)]] * 10)
        told = stay(chain, list(range(10)))
        self.assertEqual(broken(chain, list(range(10)), told), set())
        self.assertIs(stay_holds(chain, list(range(10)), told), True)

    def test_all_sinks_of_many_chains(self):
        for chain in chains():
            for sink in sinks(chain):
                told = stay(chain, sink)
                self.assertTrue(all(is_fraction(one) for one in told))
                self.assertEqual(broken(chain, sink, told), set(), (chain, sink))
                self.assertTrue(all(one > NOUGHT for one in told))
                self.assertIs(stay_holds(chain, sink, told), True)


class Holds(unittest.TestCase):
    def holds(self, chain, sink, some):
        self.assertEqual(broken(chain, sink, some), set())
        tells(self, True, stay_holds, chain, sink, some)

    def fails(self, condition, chain, sink, some):
        """The list keeps all conditions but this one."""
        self.assertEqual(broken(chain, sink, some), {condition})
        tells(self, False, stay_holds, chain, sink, some)

    def test_the_stay_holds(self):
        self.holds(PAIR, [0, 1], [(2, 3), THIRD])
        self.holds(FORK, [0, 3], [(3, 5), (2, 5)])
        self.holds(FORK, [4], [ONE])
        self.holds(ALONE, [0], [ONE])
        self.holds(ring(10), list(range(10)), [(1, 10)] * 10)

    def test_too_few_or_too_many(self):
        for wrong in ([], [ONE], [(2, 3)], [(2, 3), THIRD, NOUGHT], [NOUGHT, (2, 3), THIRD], [(2, 3), THIRD] * 2):
            self.fails("one for each room", PAIR, [0, 1], wrong)
        for wrong in ([], [ONE, NOUGHT], [HALF, HALF], [ONE, ONE]):
            self.fails("one for each room", ALONE, [0], wrong)
        # As many as the chain has rooms are too many for one of its sinks.
        self.fails("one for each room", FORK, [0, 3], [(3, 5), NOUGHT, NOUGHT, (2, 5), NOUGHT])
        self.fails("one for each room", ring(10), list(range(10)), [(1, 9)] * 9)
        self.fails("one for each room", ring(10), list(range(10)), [(1, 11)] * 11)

    def test_a_sum_other_than_1(self):
        for factor in (NOUGHT, (2, 1), HALF, (-1, 1), (10 ** 30 + 1, 10 ** 30)):
            self.fails("sum", PAIR, [0, 1], [times(one, factor) for one in ((2, 3), THIRD)])
            self.fails("sum", FORK, [0, 3], [times(one, factor) for one in ((3, 5), (2, 5))])
            self.fails("sum", ALONE, [0], [factor])
            self.fails("sum", FORK, [4], [factor])
            self.fails("sum", ring(10), list(range(10)), [times((1, 10), factor)] * 10)

    def test_changed_by_a_step(self):
        for wrong in ([HALF, HALF], [ONE, NOUGHT], [NOUGHT, ONE], [THIRD, (2, 3)], [(2, 1), (-1, 1)]):
            self.fails("step", PAIR, [0, 1], wrong)
            self.fails("step", FORK, [0, 3], wrong)
        for room in range(10):
            self.fails("step", ring(10), list(range(10)), [ONE if other == room else NOUGHT for other in range(10)])
        # Even where two steps change it back.
        self.fails("step", ring(2), [0, 1], [THIRD, (2, 3)])
        self.fails("step", ring(10), list(range(10)), [(1, 10)] * 8 + [(1, 20), (3, 20)])

    def test_changed_at_two_rooms_alone(self):
        # Rooms 1 and 2 come from 0 alone and lead back to it, so that only they tell that it is wrong.
        chain = [[(1, HALF), (2, HALF)], [(0, ONE)], [(0, ONE)]]
        self.holds(chain, [0, 1, 2], [HALF, (1, 4), (1, 4)])
        for some in ((1, 8), (3, 8), NOUGHT, (-1, 4)):
            self.fails("step", chain, [0, 1, 2], [HALF, some, fraction(some[1] - 2 * some[0], 2 * some[1])])

    def test_both_broken(self):
        for wrong in ([ONE, ONE], [NOUGHT, HALF], [(-2, 1), (5, 1)]):
            self.assertEqual(broken(PAIR, [0, 1], wrong), {"sum", "step"})
            tells(self, False, stay_holds, PAIR, [0, 1], wrong)

    def test_long_numbers(self):
        far = 10 ** 1999
        near = [fraction(2 * far + 3, 3 * far), fraction(far - 3, 3 * far)]
        self.assertEqual(total(near), ONE)
        self.assertIs(stay_holds(PAIR, [0, 1], near), False)
        awkward = [(1, far + room) for room in range(10)]
        self.assertIs(stay_holds(long_chain(10), list(range(10)), awkward), False)
        pairs = [fraction(far + room - 1, 5 * (far + room)) for room in range(5)]
        pairs = pairs + [fraction(1, 5 * (far + room)) for room in range(5)]
        self.assertIs(stay_holds(long_chain(10), list(range(10)), pairs), False)
        chain = long_chain(10)
        self.assertIs(stay_holds(chain, list(range(10)), stay(chain, list(range(10)))), True)

    def test_all_lists_of_some_numbers(self):
        numbers = (NOUGHT, ONE, HALF, THIRD, (2, 3), (1, 4), (3, 4), (-1, 1))
        for many in (1, 2):
            for chain in chains_of(many):
                for sink in sinks(chain):
                    for size in range(many + 2):
                        for some in itertools.product(numbers, repeat=size):
                            self.check(chain, sink, list(some))

    def test_all_lists_near_one_that_holds(self):
        for chain in itertools.islice(chains(), 0, None, 5):
            for sink in sinks(chain):
                told = stay(chain, sink)
                for one, other in itertools.product(range(len(sink)), repeat=2):
                    wrong = list(told)
                    wrong[one], wrong[other] = wrong[other], wrong[one]
                    self.check(chain, sink, wrong)
                    wrong[one] = plus(wrong[one], (1, 7))
                    self.check(chain, sink, wrong)

    def check(self, chain, sink, some):
        answer = stay_holds(chain, sink, some)
        self.assertIs(answer, broken(chain, sink, some) == set(), (chain, sink, some))
        self.assertIs(answer, some == stay(chain, sink), (chain, sink, some))


class Shares(unittest.TestCase):
    def test_ordinary_chains(self):
        tells(self, [(3, 5), NOUGHT, NOUGHT, (2, 5), NOUGHT], shares, FORK, 0)
        tells(self, [(3, 5), NOUGHT, NOUGHT, (2, 5), NOUGHT], shares, FORK, 3)
        tells(self, [NOUGHT, NOUGHT, NOUGHT, NOUGHT, ONE], shares, FORK, 4)
        tells(self, [(2, 5), NOUGHT, NOUGHT, (4, 15), THIRD], shares, FORK, 1)
        tells(self, [(2, 5), NOUGHT, NOUGHT, (4, 15), THIRD], shares, FORK, 2)
        tells(self, [(2, 3), THIRD], shares, PAIR, 1)

    def test_one_room(self):
        tells(self, [ONE], shares, ALONE, 0)

    def test_rows_of_one_way(self):
        for start in range(10):
            tells(self, [(1, 10)] * 10, shares, ring(10), start)
            tells(self, [NOUGHT] * 9 + [ONE], shares, ring(10)[:9] + [[(9, ONE)]], start)
            tells(self, [NOUGHT] * 7 + [THIRD] * 3, shares, ring(10)[:9] + [[(7, ONE)]], start)

    def test_rooms_that_stay(self):
        for start in range(10):
            tells(self, [ONE if room == start else NOUGHT for room in range(10)], shares,
                  [[(room, ONE)] for room in range(10)], start)

    def test_ten_rooms_in_a_line(self):
        for start in range(10):
            tells(self, [fraction(9 - start, 9)] + [NOUGHT] * 8 + [fraction(start, 9)], shares, line(10, HALF), start)

    def test_long_numbers(self):
        chain = long_chain(10)
        tells(self, stay(chain, list(range(10))), shares, chain, 7)
        chain[4] = [(4, ONE)]
        chain[6] = [(8, ONE)]
        chain[8] = [(6, ONE)]
        half = times(HALF, ever(chain, [6, 8])[0])
        expected = [NOUGHT] * 10
        expected[4], expected[6], expected[8] = ever(chain, [4])[0], half, half
        tells(self, expected, shares, chain, 0)

    def test_many_chains(self):
        for chain in itertools.islice(chains(), 0, None, 2):
            every = [shares(chain, start) for start in range(len(chain))]
            inner = {room for sink in sinks(chain) for room in sink}
            for start, told in enumerate(every):
                self.assertTrue(all(is_fraction(one) for one in told))
                self.assertEqual(total(told), ONE, (chain, start))
                self.assertEqual(stepped(chain, told), told, (chain, start))
                self.assertTrue(all(one == NOUGHT for room, one in enumerate(told) if room not in inner))
                for sink in sinks(chain):
                    self.assertEqual(total([told[room] for room in sink]), ever(chain, sink)[start])
            for room in range(len(chain)):
                column = [told[room] for told in every]
                self.assertEqual([weighed(row, column) for row in chain], column)

    def test_the_part_of_all_steps_where_nothing_is_by_chance(self):
        for chain in itertools.islice(chains(), 0, None, 2):
            if all(len(row) == 1 for row in chain):
                for start in range(len(chain)):
                    self.check_parts(chain, start)

    def check_parts(self, chain, start):
        """Behind some steps a round is gone through again and again, so one round is the long run."""
        room = spread(chain, start, 10).index(ONE)
        many = [len(sink) for sink in sinks(chain) if room in sink][0]
        added = [fractions.Fraction(0)] * len(chain)
        for step in range(10, 10 + many):
            added = [one + as_fraction(other) for one, other in zip(added, spread(chain, start, step))]
        self.assertEqual(shares(chain, start), [as_pair(one / many) for one in added], (chain, start))


if __name__ == "__main__":
    unittest.main()
