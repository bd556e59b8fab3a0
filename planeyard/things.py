"""What things are: nets, some edges of a net, wheels and rings.

Whatever is asked about is looked through kind first, value second: to Python
a truth equals a number, so that (True, 2) would pass for the edge (1, 2).
"""

MOST_PLACES = 12
MOST_EDGES = 40
LEAST_RING = 3


def is_whole(thing):
    return isinstance(thing, int) and not isinstance(thing, bool)


def are_whole(thing):
    return isinstance(thing, tuple) and all([is_whole(each) for each in thing])


def is_pair(thing):
    return are_whole(thing) and len(thing) == 2


def are_pairs(thing):
    return isinstance(thing, tuple) and all([is_pair(each) for each in thing])


def is_rising(row):
    return all([row[k] < row[k + 1] for k in range(len(row) - 1)])


def is_net(thing):
    if not isinstance(thing, tuple) or len(thing) != 2:
        return False
    count = thing[0]
    edges = thing[1]
    if not is_whole(count) or not are_pairs(edges):
        return False
    if not 1 <= count <= MOST_PLACES or len(edges) > MOST_EDGES:
        return False
    return is_rising(edges) and all([0 <= one < other < count for one, other in edges])


def are_edges(thing, net):
    return are_pairs(thing) and is_rising(thing) and all([edge in net[1] for edge in thing])


def edge_between(one, other):
    return (min(one, other), max(one, other))


def are_neighbours(net, one, other):
    return edge_between(one, other) in net[1]


def places_near(net, place):
    # Both rows rise because a net's edges do, and every lesser place is ahead of every greater one.
    lesser = [one for one, other in net[1] if other == place]
    greater = [other for one, other in net[1] if one == place]
    return lesser + greater


def is_wheel_part(part, near):
    # The least neighbour has to lead, so that no order is told in two ways.
    return sorted(part) == near and list(part[:1]) == near[:1]


def is_wheel(thing, net):
    if not isinstance(thing, tuple) or len(thing) != net[0]:
        return False
    if not all([are_whole(part) for part in thing]):
        return False
    return all([is_wheel_part(part, places_near(net, place)) for place, part in enumerate(thing)])


def is_ring(thing, net):
    if not are_whole(thing) or len(thing) < LEAST_RING or len(set(thing)) < len(thing):
        return False
    # At k = 0 the index k - 1 is the last place, which closes the ring.
    return all([are_neighbours(net, thing[k - 1], thing[k]) for k in range(len(thing))])
