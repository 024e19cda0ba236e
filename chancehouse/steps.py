"""Steps: where one is after so many of them, whether one has come to a mark by then, the chance of a road."""

from chancehouse.exact import NOUGHT, ONE, fraction, shared_bottom, times
from chancehouse.rows import halted, ways_in


def bottom_of_rows(rows):
    chances = []
    for row in rows:
        chances.extend([chance for room, chance in row])
    return shared_bottom(chances)


def whole_ways(row, bottom):
    return [(room, chance[0] * (bottom // chance[1])) for room, chance in row]


def weighed_often(rows, rooms, steps):
    # The list under way is kept as whole tops over one bottom. Were it one of fractions, common
    # divisors would be looked for at each way of each step, which takes far too long.
    factor = bottom_of_rows(rows)
    ways = [whole_ways(row, factor) for row in rows]
    tops = [1 if room in rooms else 0 for room in range(len(rows))]
    bottom = 1
    for step in range(steps):
        tops = [sum([number * tops[room] for room, number in row]) for row in ways]
        bottom = bottom * factor
    return [fraction(top, bottom) for top in tops]


def spread(chain, start, steps):
    # What is in a room after a step is weighed by the ways that lead into it.
    return weighed_often(ways_in(chain), [start], steps)


def within(chain, marks, steps):
    return weighed_often(halted(chain, marks), marks, steps)


def first_at(chain, marks, steps):
    # A mark without ways has 1 before the first step and 0 behind each one.
    rows = [[] if room in marks else row for room, row in enumerate(chain)]
    return weighed_often(rows, marks, steps)


def way_chance(row, target):
    for room, chance in row:
        if room == target:
            return chance
    return NOUGHT


def road_chance(chain, road):
    chance = ONE
    for room, target in zip(road, road[1:]):
        chance = times(chance, way_chance(chain[room], target))
    return chance
