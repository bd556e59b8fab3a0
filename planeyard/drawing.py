"""Nets drawn: a flat wheel of a net, or a knot in it."""

from planeyard.laying import flat_faces
from planeyard.parts import blocks_of, rows_of


def is_flat(net):
    for block in blocks_of(net):
        if flat_faces(net[0], block) is None:
            return False
    return True


def thinned(net, takings):
    kept = net
    for taking in takings:
        fewer = (net[0], tuple([edge for edge in kept[1] if edge not in taking]))
        if not is_flat(fewer):
            kept = fewer
    return kept


def edges_at(place, net):
    return [edge for edge in net[1] if place in edge]


# What is left of a net that is not flat, and would be flat without any one of its edges, is a knot:
# every net that is not flat has one in it, and an edge that is none of the knot's could still go.
def knot_in(net):
    # Whole places go first, only because few edges are then left to be tried one by one.
    fewer = thinned(net, [edges_at(place, net) for place in range(net[0])])
    return thinned(fewer, [[edge] for edge in fewer[1]])[1]


def places_behind(faces):
    behind = {}
    for face in faces:
        for k in range(len(face)):
            behind[(face[k - 2], face[k - 1])] = face[k]
    return behind


def order_at(place, row, behind):
    # Blocks that meet at a place stand there one after another, each whole, so that they stay
    # flat together. The row rises, so each is begun at its least neighbour.
    order = []
    for first in row:
        near = first
        while near not in order:
            order.append(near)
            near = behind[(near, place)]
    return tuple(order)


def drawn(net):
    faces = []
    for block in blocks_of(net):
        laid = flat_faces(net[0], block)
        if laid is None:
            return ("knot", knot_in((net[0], block)))
        faces.extend(laid)
    behind = places_behind(faces)
    return ("wheel", tuple([order_at(place, row, behind) for place, row in enumerate(rows_of(net))]))
