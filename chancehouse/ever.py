"""Ever: the chance to come to a mark at all, its paper, and which papers hold."""

from chancehouse.exact import NOUGHT, ONE
from chancehouse.roads import level_holds, ranks
from chancehouse.rows import weighed
from chancehouse.tables import chain_table, solved


def values_by(chain, levels):
    going = [room for room, level in enumerate(levels) if level is not None and level > 0]
    return solved(chain_table(chain, going), [ONE if level == 0 else NOUGHT for level in levels])


def ever(chain, marks):
    return values_by(chain, ranks(chain, marks))


def ever_paper(chain, marks):
    levels = ranks(chain, marks)
    return (values_by(chain, levels), levels)


def mark_holds(values, levels, room):
    return values[room] == ONE and levels[room] == 0


def value_holds(row, values, level, value):
    if level is None:
        return value == NOUGHT
    return value == weighed(row, values)


def room_holds(chain, marks, paper, room):
    values = paper[0]
    levels = paper[1]
    if room in marks:
        return mark_holds(values, levels, room)
    if not level_holds(chain[room], levels, levels[room]):
        return False
    return value_holds(chain[room], values, levels[room], values[room])


def ever_holds(chain, marks, paper):
    if len(paper[0]) != len(chain) or len(paper[1]) != len(chain):
        return False
    for room in range(len(chain)):
        if not room_holds(chain, marks, paper, room):
            return False
    return True
