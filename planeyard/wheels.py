"""The faces and the handles of wheels."""

from planeyard.parts import parts_of


def dart_behind(dart, wheel):
    part = wheel[dart[1]]
    k = part.index(dart[0]) + 1
    return (dart[1], part[k % len(part)])


def face_from(first, wheel):
    face = [first]
    dart = dart_behind(first, wheel)
    while dart != first:
        face.append(dart)
        dart = dart_behind(dart, wheel)
    return tuple(face)


def faces_of(net, wheel):
    faces = []
    met = {}
    # From the least place of a face its darts go up, so each face's least dart is an edge as it stands.
    # The edges rise: the first one met of a face is that dart, and the faces come by their first ones.
    for dart in net[1]:
        if dart not in met:
            face = face_from(dart, wheel)
            faces.append(face)
            for each in face:
                met[each] = True
    return tuple(faces)


def handles(net, wheel):
    # Only a place without edges is a part by itself.
    sizes = [len(part) for part in parts_of(net) if len(part) > 1]
    return (len(net[1]) + 2 * len(sizes) - sum(sizes) - len(faces_of(net, wheel))) // 2
