"""Ways from things along ties to bars, as many as their rooms let.

Rooms of ties are kept both ways: rooms[one][other] is the room from the one to the other.
"""


def rooms_both_ways(ties):
    """For each thing of a tie the room to each thing that it is tied to."""
    rooms = {}
    for one, other in ties:
        rooms.setdefault(one, {})[other] = ties[(one, other)]
        rooms.setdefault(other, {})[one] = ties[(one, other)]
    return rooms


def short_way(start, rooms, ends):
    """A shortest way, along ties with room, from a thing to one with room at its end, or None."""
    ways = [(start,)]
    met = {start: True}
    at = 0
    while at < len(ways):
        way = ways[at]
        at += 1
        if ends.get(way[-1], 0) > 0:
            return way
        beside = rooms.get(way[-1], {})
        for thing in beside:
            if beside[thing] > 0 and thing not in met:
                met[thing] = True
                ways.append(way + (thing,))
    return None


def way_room(way, rooms, ends):
    """How much can go along a way, to the end of its last thing."""
    room = ends[way[-1]]
    for at in range(1, len(way)):
        room = min(room, rooms[way[at - 1]][way[at]])
    return room


def send_along(way, amount, rooms, ends, back):
    """Takes an amount from the rooms of a way; back is how often it is added the other way."""
    ends[way[-1]] -= amount
    for at in range(1, len(way)):
        rooms[way[at - 1]][way[at]] -= amount
        rooms[way[at]][way[at - 1]] += amount * back


def copied_rooms(rooms):
    return {one: {other: rooms[one][other] for other in rooms[one]} for one in rooms}


def star_rows(centre, rooms, ends):
    """Rows (amount, way) from a thing to ends, a greatest flow; rooms and ends stay as they are."""
    left = copied_rooms(rooms)
    ends_left = {thing: ends[thing] for thing in ends}
    way = short_way(centre, left, ends_left)
    while way is not None:
        send_along(way, way_room(way, left, ends_left), left, ends_left, 1)
        way = short_way(centre, left, ends_left)
    flow = {one: {other: rooms[one][other] - left[one][other] for other in rooms[one]} for one in rooms}
    return flow_rows(centre, flow, {thing: ends[thing] - ends_left[thing] for thing in ends})


def flow_rows(centre, flow, ends):
    """A flow parted into rows (amount, way); it is used up."""
    rows = []
    way = short_way(centre, flow, ends)
    while way is not None:
        amount = way_room(way, flow, ends)
        send_along(way, amount, flow, ends, 0)
        rows.append((amount, way))
        way = short_way(centre, flow, ends)
    return rows


def bars_by_things(bars):
    """(thing, ends) for each thing of a bar, those of the most bars first."""
    ends = rooms_both_ways(bars)
    return [(thing, ends[thing]) for _, thing in sorted([(-len(ends[thing]), thing) for thing in ends])]


def packed_rows(ties, bars):
    """Rows (amount, way) along ties, from bar's end to bar's end, within all rooms.

    They are the most that can be if one thing is an end of all bars; else just many.
    """
    rooms = rooms_both_ways(ties)
    rows = []
    done = {}
    for centre, ends in bars_by_things(bars):
        left = {thing: ends[thing] for thing in ends if thing not in done}
        found = star_rows(centre, rooms, left)
        rows.extend(found)
        for amount, way in found:
            for at in range(1, len(way)):
                rooms[way[at - 1]][way[at]] -= amount
                rooms[way[at]][way[at - 1]] -= amount
        done[centre] = True
    return tuple(rows)
