"""Ever: the chance to come to a mark at all, its paper, and which papers hold."""

from chancehouse.exact import NOUGHT, ONE, minus
from chancehouse.roads import leads_lower, ranks
from chancehouse.rows import weighed
from chancehouse.tables import solved


def table_row(chain, levels, room):
    # Only rooms under way are weighed by their rows. Were marks or lost rooms so too, they would
    # ask nothing where they lead back into themselves, and there would be more than one list.
    numbers = [ONE if other == room else NOUGHT for other in range(len(chain))]
    if levels[room] is not None and levels[room] > 0:
        for target, chance in chain[room]:
            numbers[target] = minus(numbers[target], chance)
    return numbers


def values_by(chain, levels):
    table = [table_row(chain, levels, room) for room in range(len(chain))]
    return solved(table, [ONE if level == 0 else NOUGHT for level in levels])


def ever(chain, marks):
    return values_by(chain, ranks(chain, marks))


def ever_paper(chain, marks):
    levels = ranks(chain, marks)
    return (values_by(chain, levels), levels)


def mark_holds(values, levels, room):
    return values[room] == ONE and levels[room] == 0


def lost_room_holds(chain, values, levels, room):
    return values[room] == NOUGHT and all([levels[target] is None for target, chance in chain[room]])


def ranked_room_holds(chain, values, levels, room):
    if levels[room] < 1 or not leads_lower(chain[room], levels, levels[room]):
        return False
    return values[room] == weighed(chain[room], values)


def room_holds(chain, marks, paper, room):
    values = paper[0]
    levels = paper[1]
    if room in marks:
        return mark_holds(values, levels, room)
    if levels[room] is None:
        return lost_room_holds(chain, values, levels, room)
    return ranked_room_holds(chain, values, levels, room)


def ever_holds(chain, marks, paper):
    if len(paper[0]) != len(chain) or len(paper[1]) != len(chain):
        return False
    for room in range(len(chain)):
        if not room_holds(chain, marks, paper, room):
            return False
    return True
