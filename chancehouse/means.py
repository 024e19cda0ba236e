"""Means: what is paid until one is in a mark for the first time, their paper, and which papers hold."""

from chancehouse.exact import NOUGHT, plus
from chancehouse.roads import falls, level_holds, ranks
from chancehouse.rows import weighed
from chancehouse.tables import chain_table, solved


def means_by(chain, costs, marks, drops):
    going = [room for room, drop in enumerate(drops) if drop is None and room not in marks]
    dues = [cost if room in going else NOUGHT for room, cost in enumerate(costs)]
    values = solved(chain_table(chain, going), dues)
    return [value if drop is None else None for value, drop in zip(values, drops)]


def means(chain, costs, marks):
    return means_by(chain, costs, marks, falls(chain, marks))


def means_paper(chain, costs, marks):
    drops = falls(chain, marks)
    return (means_by(chain, costs, marks, drops), ranks(chain, marks), drops)


def levels_hold(row, levels, drops, room):
    if not level_holds(row, levels, levels[room]):
        return False
    if levels[room] is None:
        return drops[room] == 0
    return level_holds(row, drops, drops[room])


def room_holds(chain, marks, paper, room):
    values = paper[0]
    levels = paper[1]
    drops = paper[2]
    if room in marks:
        return values[room] == NOUGHT and levels[room] == 0 and drops[room] is None
    if (values[room] is None) == (drops[room] is None):
        return False
    return levels_hold(chain[room], levels, drops, room)


def sum_holds(row, cost, values, value):
    return value is None or value == plus(cost, weighed(row, values))


def means_hold(chain, costs, marks, paper):
    for some in paper:
        if len(some) != len(chain):
            return False
    # Only where all rooms hold is it sure that a room with a value leads into rooms with values alone.
    for room in range(len(chain)):
        if not room_holds(chain, marks, paper, room):
            return False
    for room, row in enumerate(chain):
        if room not in marks and not sum_holds(row, costs[room], paper[0], paper[0][room]):
            return False
    return True
