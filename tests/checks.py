"""Plain checks of what the program tells, written apart from it, from the document's words alone."""

import itertools


def told_kinds(thing):
    """Whether all of it is tuples, texts, whole numbers and None."""
    if type(thing) is tuple:
        return all(told_kinds(each) for each in thing)
    return thing is None or type(thing) in (int, str)


def plain_parts(places, edges):
    """The parts of any places that can be sorted: sets are melted together, edge by edge."""
    parts = [{place} for place in places]
    for one, other in edges:
        touched = [part for part in parts if one in part or other in part]
        parts = [part for part in parts if part not in touched] + [set().union(*touched)]
    return sorted(tuple(sorted(part)) for part in parts)


def parts_without_edge(net, edge):
    return plain_parts(range(net[0]), [each for each in net[1] if each != edge])


def parts_without_place(net, place):
    rest = [each for each in range(net[0]) if each != place]
    return plain_parts(rest, [each for each in net[1] if place not in each])


def plain_bridges(net):
    many = len(plain_parts(range(net[0]), net[1]))
    return tuple(edge for edge in net[1] if len(parts_without_edge(net, edge)) > many)


def plain_joints(net):
    many = len(plain_parts(range(net[0]), net[1]))
    return tuple(place for place in range(net[0]) if len(parts_without_place(net, place)) > many)


def near_rows(net):
    return [sorted(b for edge in net[1] for a, b in (edge, edge[::-1]) if a == place) for place in range(net[0])]


def rings_of(net):
    """The edges of each ring, all rings being walked from their least places."""
    near = near_rows(net)
    found = set()

    def walk(way):
        for place in near[way[-1]]:
            if place == way[0] and len(way) >= 3:
                found.add(frozenset((min(pair), max(pair)) for pair in zip(way, way[1:] + way[:1])))
            elif place > way[0] and place not in way:
                walk(way + (place,))

    for start in range(net[0]):
        walk((start,))
    return found


def shares_a_ring(net, one, other):
    """Two ways without a common place lead from the midst of one edge to that of the other just if no
    single place is on all of them."""
    halves = [(place, name) for edge, name in ((one, 100), (other, 101)) for place in edge]
    edges = [edge for edge in net[1] if edge not in (one, other)] + halves
    for gone in range(-1, net[0]):
        places = [place for place in list(range(net[0])) + [100, 101] if place != gone]
        parts = plain_parts(places, [edge for edge in edges if gone not in edge])
        if not any(100 in part and 101 in part for part in parts):
            return False
    return True


def blocks_where(net, together):
    """The blocks, if this tells of any two edges whether they are of one."""
    rows = {tuple(other for other in net[1] if other == edge or together(edge, other)) for edge in net[1]}
    return tuple(sorted(rows))


def blocks_by_rings(net):
    rings = rings_of(net)
    return blocks_where(net, lambda one, other: any(one in ring and other in ring for ring in rings))


def blocks_by_cuts(net):
    return blocks_where(net, lambda one, other: shares_a_ring(net, one, other))


def next_darts(wheel):
    """For each dart the one behind it."""
    behind = {}
    for place, part in enumerate(wheel):
        for came, goes in zip(part, part[1:] + part[:1]):
            behind[(came, place)] = (place, goes)
    return behind


def plain_faces(wheel):
    """The darts of each face, by its least one: how they follow one another is not told."""
    behind = next_darts(wheel)
    return plain_parts(behind, behind.items())


def plain_handles(net, wheel):
    faces = plain_faces(wheel)
    doubled = 0
    for part in plain_parts(range(net[0]), net[1]):
        edges = [edge for edge in net[1] if edge[0] in part]
        if edges:
            doubled += len(edges) + 2 - len(part) - len([face for face in faces if face[0][0] in part])
    assert doubled % 2 == 0
    return doubled // 2


def is_plain_wheel(thing, net):
    return (told_kinds(thing) and type(thing) is tuple and len(thing) == net[0]
            and all(type(part) is tuple and sorted(part) == row and list(part[:1]) == row[:1]
                    for part, row in zip(thing, near_rows(net))))


def way_from(end, first, ends, some):
    """The way from an end over one of its edges, to a place told next: its places; None where it comes to no end."""
    way = [end, first]
    while way[-1] not in ends:
        on = [place for edge in some if way[-1] in edge for place in edge if place not in way[-2:]]
        if len(on) != 1:
            return None
        way += on
    return way


def knot_fault(thing, net):
    """What keeps a thing from being a knot of the net, by the document's words; None where it is one."""
    if not told_kinds(thing) or type(thing) is not tuple or list(thing) != sorted(set(thing)):
        return "no rising tuple"
    if not set(thing) <= set(net[1]):
        return "no edges of the net"
    many = [len([edge for edge in thing if place in edge]) for place in range(net[0])]
    ends = [place for place in range(net[0]) if many[place] >= 3]
    if any(many[place] not in (0, 2) for place in range(net[0]) if place not in ends):
        return "a place that is no end has neither none nor two"
    shape = [many[end] for end in ends]
    if shape not in ([4] * 5, [3] * 6):
        return "neither five ends with four each nor six with three each"
    joined, gone_over = {}, set()
    for end in ends:
        for first in [place for edge in thing if end in edge for place in edge if place != end]:
            way = way_from(end, first, ends, thing)
            if way is None or way[-1] == end:
                return "an edge leads to no other end"
            gone_over |= {(min(pair), max(pair)) for pair in zip(way, way[1:])}
            # A way is gone over from both its ends: it counts where it begins at the lesser one.
            if end < way[-1]:
                joined[(end, way[-1])] = joined.get((end, way[-1]), 0) + 1
    if gone_over != set(thing):
        return "an edge lies on no way"
    if len(ends) == 5:
        fine = all(joined.get(pair) == 1 for pair in itertools.combinations(ends, 2))
    else:
        fine = any(
            all(joined.get((min(pair), max(pair))) == 1 for pair in itertools.product(three, set(ends) - set(three)))
            for three in itertools.combinations(ends, 3))
    return None if fine else "not each end is joined with each by just one way"


def plain_sides(net, wheel):
    faces = plain_faces(wheel)
    return tuple(tuple(k for k, face in enumerate(faces) for dart in (edge, edge[::-1]) if dart in face)
                 for edge in net[1])


def plain_halves(net, wheel, ring):
    """The faces of the ring's part, as they hang together over edges that are none of the ring's."""
    faces, sides = plain_faces(wheel), plain_sides(net, wheel)
    round_it = [set(pair) for pair in zip(ring, ring[1:] + ring[:1])]
    halves = plain_parts(range(len(faces)), [pair for edge, pair in zip(net[1], sides) if set(edge) not in round_it])
    part = next(part for part in plain_parts(range(net[0]), net[1]) if ring[0] in part)
    return tuple(half for half in halves if faces[half[0]][0][0] in part)


def least_ahead(part):
    """The same round, begun at the least one."""
    return next((part[k:] + part[:k] for k in range(len(part)) if part[k] == min(part)), ())


def plain_without(net, wheel, edge):
    parts = [least_ahead(tuple(near for near in part if {place, near} != set(edge)))
             for place, part in enumerate(wheel)]
    return ((net[0], tuple(each for each in net[1] if each != edge)), tuple(parts))


def plain_with_edge(net, wheel, dart, other):
    parts = [list(part) for part in wheel]
    for (came, place), (_, far) in ((dart, other), (other, dart)):
        parts[place].insert(parts[place].index(came) + 1, far)
    edges = sorted(net[1] + ((min(dart[1], other[1]), max(dart[1], other[1])),))
    return ((net[0], tuple(edges)), tuple(least_ahead(tuple(part)) for part in parts))


def plain_together(net, edge):
    """The net with the edge drawn together to its lesser place."""
    names = [edge[0] if place == edge[1] else place - (place > edge[1]) for place in range(net[0])]
    pairs = {tuple(sorted((names[one], names[other]))) for one, other in net[1] if (one, other) != edge}
    return (net[0] - 1, tuple(sorted(pairs)))


def well_coloured(net, colours):
    return all(colours[one] != colours[other] for one, other in net[1])


def plain_coloured(net, many):
    """The first of all tuples of colours, gone through in order, that will do."""
    choices = itertools.product(range(many), repeat=net[0])
    return next((colours for colours in choices if well_coloured(net, colours)), None)


def coloured_in_order(net, many):
    """As plain_coloured, but a tuple is given up where the first of its places are wrong already."""
    near = near_rows(net)

    def go_on(colours):
        if len(colours) == net[0]:
            return colours
        for colour in range(many):
            if all(colours[place] != colour for place in near[len(colours)] if place < len(colours)):
                found = go_on(colours + (colour,))
                if found:
                    return found
        return None

    return go_on(())
