import itertools
import unittest

from chancehouse.errors import NoRule
from chancehouse.houses import chain_mixed, chain_under, costs_mixed, costs_under, is_house
from chancehouse.rows import is_chain
from helper import refuses, tells

NOUGHT = (0, 1)
ONE = (1, 1)
HALF = (1, 2)
THIRD = (1, 3)
STAY = [(0, ONE)]
EVEN = [(0, HALF), (1, HALF)]
FAR = [(1, THIRD), (2, (2, 3))]
LAST = [(2, ONE)]
HOUSE = [[(HALF, STAY), ((3, 1), EVEN), (NOUGHT, LAST)], [((5, 7), FAR)], [(NOUGHT, STAY), (ONE, LAST)]]
ROW_BY_ROW = [[STAY, EVEN, LAST], [FAR], [STAY, LAST]]
COST_BY_COST = [[HALF, (3, 1), NOUGHT], [(5, 7)], [NOUGHT, ONE]]


class IsHouse(unittest.TestCase):
    def test_houses(self):
        for house in (
            HOUSE,
            [[(NOUGHT, STAY)]],
            [[(NOUGHT, STAY), (NOUGHT, STAY)]],
            [[((999999999, 7), [(1, ONE)])], [(NOUGHT, EVEN)]],
            [[(NOUGHT, [(k, (1, 11)) for k in range(11)])] * 5 for room in range(11)],
        ):
            with self.subTest(house=house):
                tells(self, True, is_house, house)

    def test_no_houses(self):
        for why, house in (
            ("no rooms", []),
            ("a room without doors", [[]]),
            ("a room without doors behind another", [[(NOUGHT, STAY)], []]),
            ("a cost below 0", [[((-1, 2), STAY)]]),
            ("a cost below 0 at a second door", [[(ONE, STAY), ((-1, 999), STAY)]]),
            ("a row without ways", [[(ONE, [])]]),
            ("a way out of the house", [[(ONE, [(1, ONE)])]]),
            ("a way out of the house, in the last room", [[(ONE, STAY)], [(ONE, STAY), (ONE, FAR)]]),
            ("a room below 0", [[(ONE, [(-1, ONE)])]]),
            ("falling rooms", [[(ONE, [(1, HALF), (0, HALF)])], [(ONE, STAY)]]),
            ("a room twice", [[(ONE, [(0, HALF), (0, HALF)])]]),
            ("a chance of 0", [[(ONE, [(0, ONE), (1, NOUGHT)])], [(ONE, STAY)]]),
            ("a chance below 0", [[(ONE, [(0, (3, 2)), (1, (-1, 2))])], [(ONE, STAY)]]),
            ("less than 1", [[(ONE, [(0, HALF)])]]),
            ("more than 1", [[(ONE, [(0, (3, 2))])]]),
        ):
            with self.subTest(why=why):
                tells(self, False, is_house, house)


class UnderARule(unittest.TestCase):
    def test_every_rule(self):
        for rule in itertools.product(range(3), range(1), range(2)):
            chain = [ROW_BY_ROW[room][door] for room, door in enumerate(rule)]
            costs = [COST_BY_COST[room][door] for room, door in enumerate(rule)]
            with self.subTest(rule=rule):
                tells(self, chain, chain_under, HOUSE, list(rule))
                tells(self, costs, costs_under, HOUSE, list(rule))
                self.assertIs(is_chain(chain_under(HOUSE, list(rule))), True)

    def test_one_room(self):
        tells(self, [STAY], chain_under, [[((2, 3), STAY)]], [0])
        tells(self, [(2, 3)], costs_under, [[((2, 3), STAY)]], [0])

    def test_rows_that_are_one_list_come_apart(self):
        house = [[(ONE, EVEN), (NOUGHT, EVEN)], [(HALF, EVEN)]]
        tells(self, [EVEN, EVEN], chain_under, house, [0, 0])
        tells(self, [EVEN, EVEN], chain_under, house, [1, 0])

    def test_no_rules_are_refused(self):
        for why, rule in (
            ("empty", []),
            ("too short", [0, 0]),
            ("too long", [0, 0, 0, 0]),
            ("no door of the first room", [3, 0, 0]),
            ("no door of the second room", [0, 1, 0]),
            ("no door of the last room", [0, 0, 2]),
            ("a number below 0", [-1, 0, 0]),
            ("a number below 0, last", [0, 0, -1]),
            ("far beyond", [10 ** 20, 0, 0]),
        ):
            with self.subTest(why=why):
                refuses(self, NoRule, chain_under, HOUSE, rule)
                refuses(self, NoRule, costs_under, HOUSE, rule)


class UnderAMix(unittest.TestCase):
    def test_shares_are_weighed(self):
        mix = [[HALF, THIRD, (1, 6)], [ONE], [(1, 4), (3, 4)]]
        chain = [[(0, (2, 3)), (1, (1, 6)), (2, (1, 6))], FAR, [(0, (1, 4)), (2, (3, 4))]]
        tells(self, chain, chain_mixed, HOUSE, mix)
        tells(self, [(5, 4), (5, 7), (3, 4)], costs_mixed, HOUSE, mix)

    def test_ways_of_chance_0_are_left_out(self):
        mix = [[NOUGHT, HALF, HALF], [ONE], [ONE, NOUGHT]]
        chain = [[(0, (1, 4)), (1, (1, 4)), (2, HALF)], FAR, STAY]
        tells(self, chain, chain_mixed, HOUSE, mix)
        tells(self, [(3, 2), (5, 7), NOUGHT], costs_mixed, HOUSE, mix)
        tells(self, [STAY, FAR, LAST], chain_mixed, HOUSE, [[ONE, NOUGHT, NOUGHT], [ONE], [NOUGHT, ONE]])

    def test_a_mix_of_one_door_each_is_a_rule(self):
        for rule in itertools.product(range(3), range(1), range(2)):
            mix = [[ONE if door == taken else NOUGHT for door in range(len(doors))]
                   for taken, doors in zip(rule, HOUSE)]
            with self.subTest(rule=rule):
                tells(self, chain_under(HOUSE, list(rule)), chain_mixed, HOUSE, mix)
                tells(self, costs_under(HOUSE, list(rule)), costs_mixed, HOUSE, mix)

    def test_doors_with_one_row_come_together(self):
        house = [[(ONE, EVEN), (NOUGHT, EVEN)], [((2, 1), EVEN), ((4, 1), EVEN)]]
        mix = [[THIRD, (2, 3)], [HALF, HALF]]
        tells(self, [EVEN, EVEN], chain_mixed, house, mix)
        tells(self, [THIRD, (3, 1)], costs_mixed, house, mix)

    def test_shares_that_are_one_list(self):
        house = [[(ONE, STAY), (NOUGHT, [(1, ONE)])], [((2, 1), EVEN), ((4, 1), STAY)]]
        shares = [HALF, HALF]
        tells(self, [EVEN, [(0, (3, 4)), (1, (1, 4))]], chain_mixed, house, [shares, shares])
        tells(self, [HALF, (3, 1)], costs_mixed, house, [shares, shares])

    def test_what_is_told_is_a_chain(self):
        for share in (NOUGHT, (1, 7), HALF, (6, 7), ONE):
            rest = (share[1] - share[0], share[1])
            mix = [[share, NOUGHT, rest], [ONE], [rest, share]]
            mix = [[NOUGHT if one[0] == 0 else one for one in shares] for shares in mix]
            self.assertIs(is_chain(chain_mixed(HOUSE, mix)), True)

    def test_long_shares(self):
        many = 10 ** 9 - 1
        mix = [[(1, many), (many - 1, many), NOUGHT], [ONE], [NOUGHT, ONE]]
        half_of_most = ((many - 1) // 2, many)
        chain = [[(0, (half_of_most[0] + 1, many)), (1, half_of_most)], FAR, LAST]
        tells(self, chain, chain_mixed, HOUSE, mix)

    def test_no_mixes_are_refused(self):
        whole = [[ONE, NOUGHT, NOUGHT], [ONE], [ONE, NOUGHT]]
        for why, mix in (
            ("empty", []),
            ("too short", whole[:2]),
            ("too long", whole + [[ONE]]),
            ("no shares in a room", [[], [ONE], [ONE, NOUGHT]]),
            ("a share too few", [[HALF, HALF], [ONE], [ONE, NOUGHT]]),
            ("a share too many", [[ONE, NOUGHT, NOUGHT], [ONE, NOUGHT], [ONE, NOUGHT]]),
            ("a share too many, last", [[ONE, NOUGHT, NOUGHT], [ONE], [NOUGHT, NOUGHT, ONE]]),
            ("a share below 0", [[(3, 2), (-1, 2), NOUGHT], [ONE], [ONE, NOUGHT]]),
            ("a share below 0, last", [[ONE, NOUGHT, NOUGHT], [ONE], [(2, 1), (-1, 1)]]),
            ("less than 1", [[HALF, THIRD, NOUGHT], [ONE], [ONE, NOUGHT]]),
            ("noughts alone", [[ONE, NOUGHT, NOUGHT], [NOUGHT], [ONE, NOUGHT]]),
            ("more than 1", [[ONE, NOUGHT, NOUGHT], [ONE], [ONE, (1, 999)]]),
            ("more than 1 and less make up", [[HALF, NOUGHT, NOUGHT], [ONE], [ONE, HALF]]),
        ):
            with self.subTest(why=why):
                refuses(self, NoRule, chain_mixed, HOUSE, mix)
                refuses(self, NoRule, costs_mixed, HOUSE, mix)
        tells(self, [STAY, FAR, STAY], chain_mixed, HOUSE, whole)


if __name__ == "__main__":
    unittest.main()
