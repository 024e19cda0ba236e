"""Sinks, the shut sets of rooms that lead to one another, and the turns in which they are gone through."""

from chancehouse.exact import common_divisor
from chancehouse.roads import ranks


def sinks(chain):
    # ways_back[one][other] tells whether, and how far, the other room leads to the one.
    ways_back = [ranks(chain, [room]) for room in range(len(chain))]
    found = []
    for room in range(len(chain)):
        ahead = [other for other in range(len(chain)) if ways_back[other][room] is not None]
        # What lies ahead of a room is its sink just where all of it leads back; the first room tells it.
        if ahead[0] == room and all([ways_back[room][other] is not None for other in ahead]):
            found.append(ahead)
    return found


def turns(chain, sink):
    # All lists of ways from a room to the first one have the same length but for whole turns,
    # so a way that is no shortest one back is too long by whole turns.
    back = ranks(chain, [sink[0]])
    many = 0
    for room in sink:
        for target, chance in chain[room]:
            many = common_divisor(many, back[target] + 1 - back[room])
    return (many, [(-back[room]) % many for room in sink])
