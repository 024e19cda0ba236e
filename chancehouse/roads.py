"""Ranks, falls and roads: how near a room is to the marks, and to where no mark can be reached."""


def leads_into(row, counts, count):
    return any([counts[room] == count for room, chance in row])


def leads_lower(row, levels, level):
    return any([levels[room] is not None and levels[room] < level for room, chance in row])


def leads_to_none(row, levels):
    return all([levels[room] is None for room, chance in row])


def level_holds(row, levels, level):
    # Going lower must come to an end, and rooms without a level lead to no other ones: so whatever
    # numbers the levels are, just the right rooms have one.
    if level is None:
        return leads_to_none(row, levels)
    return level >= 1 and leads_lower(row, levels, level)


def ways_to(chain, ends, shut):
    counts = [0 if room in ends else None for room in range(len(chain))]
    # The fewest ways come into no room twice, so they are fewer than the rooms. A shut room stays
    # without a count, so none is counted by way of it.
    for count in range(1, len(chain)):
        for room, row in enumerate(chain):
            if counts[room] is None and room not in shut and leads_into(row, counts, count - 1):
                counts[room] = count
    return counts


def ranks(chain, marks):
    return ways_to(chain, marks, [])


def falls(chain, marks):
    lost = [room for room, level in enumerate(ranks(chain, marks)) if level is None]
    return ways_to(chain, lost, marks)


def nearer_room(row, levels, level):
    return min([room for room, chance in row if levels[room] == level - 1])


def road(chain, start, marks):
    levels = ranks(chain, marks)
    if levels[start] is None:
        return None
    rooms = [start]
    room = start
    while levels[room] > 0:
        room = nearer_room(chain[room], levels, levels[room])
        rooms.append(room)
    return rooms
