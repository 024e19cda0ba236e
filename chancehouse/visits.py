"""Visits: how often one is in each room until one is in a mark for the first time."""

from chancehouse.exact import NOUGHT, ONE
from chancehouse.sinks import sinks
from chancehouse.tables import chain_table, flipped, solved


def sinks_without(chain, marks):
    return [sink for sink in sinks(chain) if not any([room in marks for room in sink])]


def visits(chain, marks, start):
    traps = sinks_without(chain, marks)
    ends = list(marks)
    for trap in traps:
        ends.extend(trap)
    going = [room for room in range(len(chain)) if room not in ends]
    dues = [ONE if room == start else NOUGHT for room in range(len(chain))]
    values = solved(flipped(chain_table(chain, going)), dues)
    for trap in traps:
        # Solved, its rooms have the chances to come into the trap by them, so all 0 where one never does.
        if any([values[room] != NOUGHT for room in trap]):
            for room in trap:
                values[room] = None
    return values
