"""Rows of ways (room, chance), and chains, which have a row for each room."""

from chancehouse.errors import NoRow
from chancehouse.exact import NOUGHT, ONE, less, plus, times, total


def comes_to_one(row):
    return total([chance for room, chance in row]) == ONE


def row_of(pairs, many):
    chances = {}
    for room, chance in pairs:
        if room < 0 or room >= many:
            raise NoRow("a way leads into no room")
        if less(chance, NOUGHT):
            raise NoRow("a chance is below 0")
        chances[room] = plus(chances.get(room, NOUGHT), chance)
    row = [(room, chances[room]) for room in sorted(chances) if chances[room] != NOUGHT]
    if not comes_to_one(row):
        raise NoRow("the chances do not come to 1")
    return row


def is_row(row, many):
    last = -1
    for room, chance in row:
        if room <= last or room >= many or not less(NOUGHT, chance):
            return False
        last = room
    return comes_to_one(row)


def is_chain(chain):
    return len(chain) > 0 and all([is_row(row, len(chain)) for row in chain])


def weighed(row, values):
    return total([times(chance, values[room]) for room, chance in row])


def stepped(chain, spread):
    gathered = [NOUGHT for row in chain]
    for number, row in zip(spread, chain):
        for room, chance in row:
            gathered[room] = plus(gathered[room], times(number, chance))
    return gathered


def ways_in(chain):
    gathered = [[] for row in chain]
    for room, row in enumerate(chain):
        for target, chance in row:
            gathered[target].append((room, chance))
    return gathered


def halted(chain, marks):
    return [[(room, ONE)] if room in marks else list(row) for room, row in enumerate(chain)]
