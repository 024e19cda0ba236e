"""Stays: how the time is shared among the rooms of a sink, and among all rooms, in the long run."""

from chancehouse.ever import ever
from chancehouse.exact import NOUGHT, ONE, over, times, total
from chancehouse.rows import ways_in, weighed
from chancehouse.sinks import sinks
from chancehouse.tables import chain_table, flipped, idle


def chain_of(chain, sink):
    # No way leads out of a sink, so its rooms, numbered by their places in it, are a chain.
    return [[(sink.index(target), chance) for target, chance in chain[room]] for room in sink]


def stay(chain, sink):
    table = chain_table(chain_of(chain, sink), list(range(len(sink))))
    # A list that a step does not change is an idle one, and all idle lists of a sink are multiples
    # of one another.
    some = idle(flipped(table))
    whole = total(some)
    return [over(one, whole) for one in some]


def stay_holds(chain, sink, some):
    if len(some) != len(sink) or total(some) != ONE:
        return False
    for one, row in zip(some, ways_in(chain_of(chain, sink))):
        if one != weighed(row, some):
            return False
    return True


def shares(chain, start):
    parts = [NOUGHT for row in chain]
    for sink in sinks(chain):
        chance = ever(chain, sink)[start]
        for room, part in zip(sink, stay(chain, sink)):
            parts[room] = times(chance, part)
    return parts
