"""Nets and wheels changed by an edge, and nets made out of others."""

from planeyard.errors import NoEdge, NoFace, NoRoom
from planeyard.things import MOST_EDGES, MOST_PLACES, are_edges, are_neighbours, edge_between, is_pair
from planeyard.wheels import face_from


def with_least_first(part):
    if not part:
        return part
    k = part.index(min(part))
    return part[k:] + part[:k]


def without_place(part, place):
    return with_least_first(tuple([near for near in part if near != place]))


def with_place_behind(part, ahead, place):
    k = part.index(ahead) + 1
    return with_least_first(part[:k] + (place,) + part[k:])


def edges_without(net, edge):
    # are_edges sees to the kinds as well, which a mere look among the edges would not.
    if not are_edges((edge,), net):
        raise NoEdge("the net has no such edge")
    return [each for each in net[1] if each != edge]


def without(net, wheel, edge):
    rest = edges_without(net, edge)
    parts = list(wheel)
    parts[edge[0]] = without_place(wheel[edge[0]], edge[1])
    parts[edge[1]] = without_place(wheel[edge[1]], edge[0])
    return ((net[0], tuple(rest)), tuple(parts))


def is_dart(thing, net):
    return is_pair(thing) and are_neighbours(net, thing[0], thing[1])


def with_edge(net, wheel, dart, other):
    if not is_dart(dart, net) or not is_dart(other, net) or other not in face_from(dart, wheel):
        raise NoFace("these are no darts of one face")
    goal = dart[1]
    far = other[1]
    if goal == far or are_neighbours(net, goal, far) or len(net[1]) >= MOST_EDGES:
        raise NoEdge("no edge can be put in between these places")
    parts = list(wheel)
    parts[goal] = with_place_behind(wheel[goal], dart[0], far)
    parts[far] = with_place_behind(wheel[far], other[0], goal)
    return ((net[0], tuple(sorted(net[1] + (edge_between(goal, far),)))), tuple(parts))


# The edges under these names, one for each place; edges that fall together stand once.
def edges_named(edges, names):
    return tuple(sorted(set([edge_between(names[one], names[other]) for one, other in edges])))


def drawn_together(net, edge):
    rest = edges_without(net, edge)
    greater = edge[1]
    names = list(range(greater)) + [edge[0]] + list(range(greater, net[0] - 1))
    return (net[0] - 1, edges_named(rest, names))


def renamed(net, names):
    return (net[0], edges_named(net[1], names))


def beside(one, other):
    count = one[0] + other[0]
    if count > MOST_PLACES or len(one[1]) + len(other[1]) > MOST_EDGES:
        raise NoRoom("there would be too many places or edges")
    # All places of other come behind those of one, so the edges still rise.
    return (count, one[1] + edges_named(other[1], list(range(one[0], count))))
