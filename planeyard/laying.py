"""One block laid flat, way after way.

What is laid has faces, each told by the row of the places round it. At the
start a single edge is laid, with one face that goes there and back. What is
not laid yet hangs on laid places in pieces, and a piece has room in a face
that has all the places on which it hangs. A way through a piece is laid into
a face in which it has room, and makes that face two. If a piece with the
least room is taken each time, no face that is chosen is a wrong one: where a
piece comes to have no room, the block has no flat drawing.
"""

from planeyard.parts import parts_among, rows_of


def laid_by(faces):
    laid = {}
    for face in faces:
        for k in range(len(face)):
            laid[face[k]] = True
            laid[(face[k - 1], face[k])] = True
    return laid


def ends_of(part, rows):
    ends = {}
    for place in part:
        for near in rows[place]:
            if near not in part:
                ends[near] = True
    return tuple(sorted(ends))


# A piece is a pair: the laid places on which it hangs, and the places within it.
def pieces_left(block, rows, faces):
    laid = laid_by(faces)
    # Places without a row have no edges of the block and are none of its places.
    loose = [place for place in range(len(rows)) if rows[place] and place not in laid]
    pieces = [(ends_of(part, rows), part) for part in parts_among(loose, rows)]
    for edge in block:
        if edge not in laid and edge[0] in laid and edge[1] in laid:
            pieces.append((edge, ()))
    return pieces


def room_of(piece, faces):
    return [face for face in faces if all([place in face for place in piece[0]])]


def with_least_room(pieces, faces):
    rooms = [(piece, room_of(piece, faces)) for piece in pieces]
    return min(rooms, key=lambda pair: len(pair[1]))


def way_through(piece, rows):
    ends = piece[0]
    within = piece[1]
    if not within:
        return ends
    # Any place beside the first end will do: the places within are one part, and
    # a piece of a block hangs on two places or more.
    start = [place for place in within if place in rows[ends[0]]][0]
    met = {start: True}
    ways = [(ends[0], start)]
    while True:
        way = ways.pop()
        for near in rows[way[-1]]:
            if near in ends[1:]:
                return way + (near,)
            if near in within and near not in met:
                met[near] = True
                ways.append(way + (near,))


def halves(face, way):
    start = face.index(way[0])
    turned = face[start:] + face[:start]
    goal = turned.index(way[-1])
    # One half comes back along the way, the other goes out along it: so each dart is in one face alone.
    back = tuple(reversed(way[1:-1]))
    return [turned[:goal + 1] + back, way[:-1] + turned[goal:]]


# The faces of a flat drawing of a block of a net of so many places, None where there is none.
def flat_faces(count, block):
    rows = rows_of((count, block))
    faces = [block[0]]
    pieces = pieces_left(block, rows, faces)
    while pieces:
        chosen = with_least_room(pieces, faces)
        if not chosen[1]:
            return None
        face = chosen[1][0]
        faces = [other for other in faces if other != face] + halves(face, way_through(chosen[0], rows))
        pieces = pieces_left(block, rows, faces)
    return faces
