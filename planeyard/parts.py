"""Neighbours, parts, blocks, bridges and joints of nets."""

from planeyard.things import edge_between, places_near


def neighbours(net, place):
    return tuple(places_near(net, place))


def rows_of(net):
    return [places_near(net, place) for place in range(net[0])]


def come_to(start, among, rows):
    met = {start: True}
    ahead = [start]
    while ahead:
        here = ahead.pop()
        for near in rows[here]:
            if near in among and near not in met:
                met[near] = True
                ahead.append(near)
    return tuple(sorted(met))


# Rows tell what is beside each. Edges fall into blocks in the way in which places fall into parts, so
# what is asked for here may be either, and some only: nothing that is not among them is gone through.
def parts_among(among, rows):
    parts = []
    for start in among:
        if not any([start in part for part in parts]):
            parts.append(come_to(start, among, rows))
    return parts


def parts_of(net):
    return tuple(parts_among(list(range(net[0])), rows_of(net)))


def both_have(one, other):
    return [each for each in one if each in other]


# A ring goes through two edges of one place just if their other ends are come to from one another
# without that place: such ends make a group.
def groups_at(place, rows):
    others = [other for other in range(len(rows)) if other != place]
    groups = [both_have(part, rows[place]) for part in parts_among(others, rows)]
    return [group for group in groups if group]


def put_beside(edges, beside):
    # Each is put beside the next one alone: all are come to over these.
    for k in range(1, len(edges)):
        beside[edges[k - 1]].append(edges[k])
        beside[edges[k]].append(edges[k - 1])


def edges_beside(net):
    beside = {}
    for edge in net[1]:
        beside[edge] = []
    rows = rows_of(net)
    for place in range(net[0]):
        for group in groups_at(place, rows):
            put_beside([edge_between(place, near) for near in group], beside)
    return beside


def blocks_of(net):
    # Along a ring each edge has a place in common with the next, so that steps within groups lead round it.
    return tuple(parts_among(net[1], edges_beside(net)))


def bridges_of(net):
    # An edge on a ring has the ring's other edges in its block, and one on no ring is a bridge.
    return tuple([block[0] for block in blocks_of(net) if len(block) == 1])


def joints_of(net):
    rows = rows_of(net)
    return tuple([place for place in range(net[0]) if len(groups_at(place, rows)) > 1])
