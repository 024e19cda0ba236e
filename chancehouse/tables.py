"""Tables of numbers: solved for their dues, and their idle lists."""

from chancehouse.errors import NoAnswer
from chancehouse.exact import NOUGHT, ONE, fraction, minus, shared_bottom


def chain_table(chain, going):
    # Only the rooms told here are weighed by their rows, each other one is asked for its due alone.
    # Were a sink among those weighed, it would ask nothing of itself, and there would be more than
    # one list.
    table = [[ONE if place == room else NOUGHT for place in range(len(chain))] for room in range(len(chain))]
    for room in going:
        for target, chance in chain[room]:
            table[room][target] = minus(table[room][target], chance)
    return table


def flipped(table):
    return [[row[place] for row in table] for place in range(len(table))]


def made_whole(some):
    # What a row asks stays the same where it is multiplied as a whole, and with whole numbers no
    # common divisors need to be found on the way.
    bottom = shared_bottom(some)
    return [one[0] * (bottom // one[1]) for one in some]


def lead_from(rows, start, place):
    for at in range(start, len(rows)):
        if rows[at][place] != 0:
            return at
    return None


def swapped(rows, one, other):
    moved = list(rows)
    moved[one] = rows[other]
    moved[other] = rows[one]
    return moved


def swept_row(row, lead, place, last):
    # Each number stays the determinant of a part of the first rows, so that dividing by the last
    # lead leaves no rest; without it the numbers would double their figures at each place.
    return [(lead[place] * one - row[place] * other) // last for one, other in zip(row, lead)]


def swept(rows, at, place, last):
    lead = rows[at]
    return [row if which == at else swept_row(row, lead, place, last) for which, row in enumerate(rows)]


def cleared(rows, wide):
    # The rows given back ask the same of a list as those handed in, but each of the first ones has
    # a place of its own where all others have 0, and those behind have 0 at all the wide places.
    places = []
    last = 1
    for place in range(wide):
        at = len(places)
        found = lead_from(rows, at, place)
        if found is not None:
            rows = swept(swapped(rows, at, found), at, place, last)
            last = rows[at][place]
            places.append(place)
    return (rows, places)


def solved(table, dues):
    many = len(table)
    whole = [made_whole(row + [due]) for row, due in zip(table, dues)]
    outcome = cleared(whole, many)
    if len(outcome[1]) < many:
        raise NoAnswer("there is not just one list that the table and its dues ask for")
    return [fraction(row[many], row[place]) for place, row in enumerate(outcome[0])]


def idle(table):
    many = len(table)
    outcome = cleared([made_whole(row) for row in table], many)
    rows = outcome[0]
    places = outcome[1]
    if len(places) == many:
        return None
    free = min([place for place in range(many) if place not in places])
    answer = [NOUGHT for row in table]
    answer[free] = ONE
    for row, place in zip(rows, places):
        answer[place] = fraction(-row[free], row[place])
    return answer
