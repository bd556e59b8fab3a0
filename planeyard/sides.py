"""The faces on both sides of edges and of rings, and the face that has all places."""

from planeyard.errors import NoRing
from planeyard.parts import come_to
from planeyard.things import edge_between, is_ring
from planeyard.wheels import faces_of


def sides_by_edge(net, faces):
    sides = {}
    for edge in net[1]:
        sides[edge] = []
    # Faces come by their numbers, so each edge meets the lesser one first.
    for number, face in enumerate(faces):
        for dart in face:
            sides[edge_between(dart[0], dart[1])].append(number)
    return sides


def sides_of(net, wheel):
    sides = sides_by_edge(net, faces_of(net, wheel))
    return tuple([tuple(sides[edge]) for edge in net[1]])


def edges_round(ring):
    return [edge_between(ring[k - 1], ring[k]) for k in range(len(ring))]


def put_side_by_side(numbers, pairs):
    beside = [[] for number in numbers]
    for pair in pairs:
        beside[pair[0]].append(pair[1])
        beside[pair[1]].append(pair[0])
    return beside


def parted(net, wheel, ring):
    if not is_ring(ring, net):
        raise NoRing("this is no ring of the net")
    faces = faces_of(net, wheel)
    numbers = list(range(len(faces)))
    sides = sides_by_edge(net, faces)
    barred = edges_round(ring)
    beside = put_side_by_side(numbers, [sides[edge] for edge in net[1] if edge not in barred])
    # The wheel is flat, so an edge of the ring has a face of each half at its sides.
    return tuple(sorted([come_to(number, numbers, beside) for number in sides[barred[0]]]))


def has_all_places(face, net):
    return len(set([dart[0] for dart in face])) == net[0]


def outer_face(net, wheel):
    for number, face in enumerate(faces_of(net, wheel)):
        if has_all_places(face, net):
            return number
    return None
