import itertools
import random
import unittest

from checks import next_darts, plain_bridges, plain_faces, plain_halves, plain_parts, plain_sides, told_kinds
from planeyard.drawing import drawn
from planeyard.errors import NoRing
from planeyard.parts import bridges_of
from planeyard.sides import outer_face, parted, sides_of
from planeyard.wheels import faces_of, handles
from samples import (
    chance_flat_wheel, chance_nets, chance_ring, chance_tree, chance_wheel, edge_places, fan, flat_wheels, full,
    full_flat_net, hung_together, net_with, odd_things, patched_nets, ring, row, side_by_side, small_nets, wheels_of,
    with_truth)

FLAT_FOUR = ((1, 2, 3), (0, 3, 2), (0, 1, 3), (0, 2, 1))


def drawn_flat(nets):
    """Each of these nets that is flat, and the wheel that is told of it."""
    told = [(net, drawn(net)) for net in nets]
    return [(net, wheel) for net, (kind, wheel) in told if kind == "wheel"]


def small_flat_wheels():
    return [(net, wheel) for net in small_nets() for wheel in wheels_of(net) if handles(net, wheel) == 0]


def ordered_rings(net):
    """Each ring, from each of its places, both ways round."""
    near = edge_places(net)
    found = []

    def walk(way):
        if len(way) >= 3 and way[0] in near[way[-1]]:
            found.append(way)
        for place in sorted(near[way[-1]] - set(way)):
            walk(way + (place,))

    for start in range(net[0]):
        walk((start,))
    return found


def ring_edges(way):
    return [(min(pair), max(pair)) for pair in zip(way, way[1:] + way[:1])]


class SidesOf(unittest.TestCase):
    def test_no_edges(self):
        for count in (1, 2, 5, 12):
            self.assertEqual(sides_of((count, ()), ((),) * count), ())

    def test_one_edge(self):
        self.assertEqual(sides_of((2, ((0, 1),)), ((1,), (0,))), ((0, 0),))
        self.assertEqual(sides_of((4, ((1, 3),)), ((), (3,), (), (1,))), ((0, 0),))

    def test_trees(self):
        dice = random.Random(81)
        for count in range(2, 13):
            for _ in range(5):
                net = chance_tree(count, dice)
                self.assertEqual(sides_of(net, chance_wheel(net, dice)), ((0, 0),) * (count - 1))

    def test_rings(self):
        for count in range(3, 13):
            wheel = tuple(tuple(sorted(near)) for near in edge_places(ring(count)))
            self.assertEqual(sides_of(ring(count), wheel), ((0, 1),) * count)

    def test_four_places_with_all_edges(self):
        self.assertEqual(sides_of(full(4), FLAT_FOUR), ((0, 1), (1, 2), (0, 2), (1, 3), (0, 3), (2, 3)))

    def test_a_ring_with_an_edge_hung_on(self):
        net = hung_together(ring(3), row(2))
        self.assertEqual(sides_of(net, ((1, 2), (0, 2), (0, 1, 3), (2,))), ((0, 1), (0, 1), (0, 1), (0, 0)))
        self.assertEqual(sides_of(net, ((1, 2), (0, 2), (0, 3, 1), (2,))), ((0, 1), (0, 1), (0, 1), (1, 1)))

    def test_several_parts(self):
        net = side_by_side((1, ()), row(2), ring(3), (1, ()), row(3))
        wheel = ((), (2,), (1,), (4, 5), (3, 5), (3, 4), (), (8,), (7, 9), (8,))
        self.assertEqual(sides_of(net, wheel), ((0, 0), (1, 2), (1, 2), (1, 2), (3, 3), (3, 3)))

    def test_many_flat_wheels(self):
        pairs = flat_wheels(random.Random(82), 200) + drawn_flat(patched_nets() + chance_nets(random.Random(83), 150))
        for net, wheel in pairs + small_flat_wheels():
            told = sides_of(net, wheel)
            self.assertEqual(told, plain_sides(net, wheel), (net, wheel))
            self.assertEqual(len(told), len(net[1]))
            faces = faces_of(net, wheel)
            for (one, other), (lesser, greater) in zip(net[1], told):
                self.assertLessEqual(lesser, greater)
                self.assertEqual({lesser, greater}, {k for k, face in enumerate(faces)
                                                     if (one, other) in face or (other, one) in face})

    def test_the_same_face_twice_just_at_bridges(self):
        for net, wheel in flat_wheels(random.Random(84), 200) + drawn_flat(patched_nets()):
            alike = tuple(edge for edge, (one, other) in zip(net[1], sides_of(net, wheel)) if one == other)
            self.assertEqual(alike, bridges_of(net), (net, wheel))
            self.assertEqual(alike, plain_bridges(net), (net, wheel))

    def test_kinds_and_the_same_again(self):
        for net, wheel in flat_wheels(random.Random(85), 40):
            before = repr((net, wheel))
            told = sides_of(net, wheel)
            self.assertTrue(told_kinds(told) and all(type(pair) is tuple and len(pair) == 2 for pair in told))
            self.assertEqual(sides_of(net, wheel), told)
            self.assertEqual(repr((net, wheel)), before)


class Parted(unittest.TestCase):
    def looked_through(self, net, wheel, way):
        halves = parted(net, wheel, way)
        self.assertEqual(halves, plain_halves(net, wheel, way), (net, wheel, way))
        self.assertTrue(told_kinds(halves) and type(halves) is tuple and len(halves) == 2)
        one, other = halves
        self.assertTrue(one and other and one[0] < other[0])
        self.assertTrue(type(one) is tuple and type(other) is tuple)
        self.assertEqual((list(one), list(other)), (sorted(set(one)), sorted(set(other))))
        part = next(part for part in plain_parts(range(net[0]), net[1]) if way[0] in part)
        own = [k for k, face in enumerate(plain_faces(wheel)) if face[0][0] in part]
        self.assertEqual(sorted(one + other), own)
        for edge, (lesser, greater) in zip(net[1], plain_sides(net, wheel)):
            if edge in ring_edges(way):
                self.assertNotEqual(lesser in one, greater in one)
            else:
                self.assertEqual(lesser in one, greater in one)

    def refused(self, net, wheel, thing):
        with self.assertRaises(NoRing) as caught:
            parted(net, wheel, thing)
        self.assertIs(type(caught.exception), NoRing)

    def test_a_ring_by_itself(self):
        for count in range(3, 13):
            wheel = tuple(tuple(sorted(near)) for near in edge_places(ring(count)))
            self.assertEqual(parted(ring(count), wheel, tuple(range(count))), ((0,), (1,)))
            self.assertEqual(parted(ring(count), wheel, tuple(reversed(range(count)))), ((0,), (1,)))

    def test_four_places_with_all_edges(self):
        for way, halves in (((0, 1, 2), ((0, 2, 3), (1,))), ((0, 1, 3), ((0,), (1, 2, 3))),
                            ((0, 2, 3), ((0, 1, 3), (2,))), ((3, 2, 1), ((0, 1, 2), (3,))),
                            ((0, 1, 2, 3), ((0, 3), (1, 2))), ((0, 2, 1, 3), ((0, 1), (2, 3))),
                            ((1, 2, 0, 3), ((0, 1), (2, 3))), ((0, 1, 3, 2), ((0, 2), (1, 3)))):
            self.assertEqual(parted(full(4), FLAT_FOUR, way), halves, way)

    def test_places_inside_and_outside(self):
        # Round place 0 a ring 1, 2, 3, and round that a ring 4, 5, 6, with edges from each to the next.
        net = net_with(7, [(0, 1), (0, 2), (0, 3), (1, 2), (2, 3), (1, 3), (1, 4), (2, 5), (3, 6), (4, 5), (5, 6),
                           (4, 6)])
        wheel = drawn(net)[1]
        for way, sizes in (((1, 2, 3), [3, 4]), ((4, 5, 6), [1, 6]), ((4, 5, 2, 3, 6), [2, 5]), ((0, 1, 2), [1, 6]),
                           ((4, 1, 0, 2, 5), [2, 5]), ((4, 1, 0, 3, 2, 5), [3, 4])):
            self.looked_through(net, wheel, way)
            self.assertEqual(sorted(map(len, parted(net, wheel, way))), sizes, way)

    def test_faces_of_other_parts_are_in_neither(self):
        net = side_by_side(row(3), ring(3), (1, ()), full(4), row(2))
        wheel = ((1,), (0, 2), (1,), (4, 5), (3, 5), (3, 4), ()) + tuple(
            tuple(near + 7 for near in part) for part in FLAT_FOUR) + ((12,), (11,))
        self.assertEqual(net[0], 13)
        self.assertEqual(parted(net, wheel, (3, 4, 5)), ((1,), (2,)))
        self.assertEqual(parted(net, wheel, (7, 8, 9)), ((3, 5, 6), (4,)))
        self.assertEqual(parted(net, wheel, (8, 9, 10, 7)), ((3, 6), (4, 5)))

    def test_rings_that_meet_at_a_place(self):
        net = hung_together(ring(3), ring(3))
        apart = ((1, 2), (0, 2), (0, 1, 3, 4), (2, 4), (2, 3))
        within = ((1, 2), (0, 2), (0, 3, 4, 1), (2, 4), (2, 3))
        for wheel in (apart, within):
            self.looked_through(net, wheel, (0, 1, 2))
            self.looked_through(net, wheel, (4, 3, 2))

    def test_every_ring_of_small_flat_wheels(self):
        for net, wheel in small_flat_wheels():
            for way in ordered_rings(net):
                self.looked_through(net, wheel, way)

    def test_every_ring_from_each_place_both_ways(self):
        dice = random.Random(86)
        for _ in range(12):
            net, wheel = chance_flat_wheel(6, dice.randint(7, 10), dice)
            for way in ordered_rings(net):
                self.looked_through(net, wheel, way)

    def test_many_flat_wheels(self):
        dice = random.Random(87)
        pairs = flat_wheels(dice, 250) + drawn_flat(patched_nets() + [fan(12), full_flat_net(12, dice)])
        pairs += drawn_flat(chance_nets(dice, 100))
        many = 0
        for net, wheel in pairs:
            for way in {chance_ring(net, dice) for _ in range(6)} - {None}:
                self.looked_through(net, wheel, way)
                many += 1
        self.assertGreater(many, 500)

    def test_what_is_no_ring_is_refused(self):
        for way in ((), (0,), (0, 1), (0, 1, 0), (0, 1, 2, 0), (0, 1, 2, 3, 0), (0, 1, 2, 0, 1, 2), (0, 1, 4),
                    (-1, 0, 1), (3, 4, 0), (0, 1, 2, 12)):
            self.refused(full(4), FLAT_FOUR, way)
        net = hung_together(ring(3), row(2))
        wheel = ((1, 2), (0, 2), (0, 1, 3), (2,))
        for way in ((0, 1, 3), (0, 1, 2, 3), (1, 2, 3), (2, 3, 2), (2, 3)):
            self.refused(net, wheel, way)
        self.refused((1, ()), ((),), (0, 0, 0))
        self.refused((3, ()), ((), (), ()), (0, 1, 2))

    def test_no_rings_in_trees(self):
        dice = random.Random(88)
        for count in range(1, 6):
            net = chance_tree(count, dice)
            wheel = chance_wheel(net, dice)
            for size in range(count + 1):
                for way in itertools.permutations(range(count), size):
                    self.refused(net, wheel, way)

    def test_things_of_other_kinds_are_refused(self):
        for way in ([0, 1, 2], ((0, 1), (1, 2), (0, 2)), ("0", "1", "2"), "012", (0, 1, None), (0, 1, "2"),
                    (0, 1, [2]), (0, 1, (2,)), (0, None, 2), with_truth((0, 1, 2), 0), with_truth((0, 1, 2), 1)):
            self.refused(full(4), FLAT_FOUR, way)
        for thing in odd_things():
            self.refused(full(4), FLAT_FOUR, thing)
            self.refused(full(4), FLAT_FOUR, (0, 1, thing) if thing not in (2, 3) else thing)

    def test_the_same_again_and_nothing_changed(self):
        dice = random.Random(89)
        for net, wheel in flat_wheels(dice, 40):
            way = chance_ring(net, dice)
            before = repr((net, wheel, way))
            if way:
                self.assertEqual(parted(net, wheel, way), parted(net, wheel, way))
            self.assertEqual(repr((net, wheel, way)), before)


class OuterFace(unittest.TestCase):
    def test_no_edges(self):
        for count in (1, 2, 12):
            self.assertIsNone(outer_face((count, ()), ((),) * count))

    def test_trees(self):
        dice = random.Random(90)
        for count in range(2, 13):
            net = chance_tree(count, dice)
            told = outer_face(net, chance_wheel(net, dice))
            self.assertEqual(told, 0)
            self.assertIs(type(told), int)

    def test_rings(self):
        for count in range(3, 13):
            wheel = tuple(tuple(sorted(near)) for near in edge_places(ring(count)))
            self.assertEqual(outer_face(ring(count), wheel), 0)

    def test_no_face_has_all(self):
        self.assertIsNone(outer_face(full(4), FLAT_FOUR))

    def test_the_face_with_all_is_not_always_the_first(self):
        net = hung_together(ring(3), row(2))
        self.assertEqual(outer_face(net, ((1, 2), (0, 2), (0, 3, 1), (2,))), 1)
        self.assertEqual(outer_face(net, ((1, 2), (0, 2), (0, 1, 3), (2,))), 0)
        # A ring of four with the edge 0-2: two faces with three places, and one with all.
        net = net_with(4, ring(4)[1] + ((0, 2),))
        self.assertEqual(outer_face(net, ((1, 2, 3), (0, 2), (0, 1, 3), (0, 2))), 0)
        self.assertEqual(outer_face(net, ((1, 3, 2), (0, 2), (0, 3, 1), (0, 2))), 2)

    def test_several_parts(self):
        self.assertIsNone(outer_face(side_by_side(row(2), row(2)), ((1,), (0,), (3,), (2,))))
        self.assertIsNone(outer_face(side_by_side(row(2), (1, ())), ((1,), (0,), ())))
        self.assertIsNone(outer_face(side_by_side((1, ()), row(2)), ((), (2,), (1,))))
        self.assertIsNone(outer_face(side_by_side(ring(3), (1, ())), ((1, 2), (0, 2), (0, 1), ())))

    def test_many_flat_wheels(self):
        dice = random.Random(91)
        pairs = flat_wheels(dice, 300) + drawn_flat(patched_nets() + chance_nets(dice, 100)) + small_flat_wheels()
        pairs += [chance_flat_wheel(count, count + 1, dice) for count in range(4, 13) for _ in range(8)]
        seen = set()
        for net, wheel in pairs:
            fine = [k for k, face in enumerate(plain_faces(wheel))
                    if {place for dart in face for place in dart} == set(range(net[0]))]
            told = outer_face(net, wheel)
            self.assertEqual(told, fine[0] if fine else None, (net, wheel))
            self.assertEqual(outer_face(net, wheel), told)
            self.assertTrue(told_kinds(told))
            seen.add(told)
        self.assertLessEqual({None, 0, 1, 2}, seen)


class PlainSides(unittest.TestCase):
    """The wheels that the tests make for themselves have to be flat."""

    def test_flat_wheels(self):
        for net, wheel in flat_wheels(random.Random(92), 150):
            parts = [part for part in plain_parts(range(net[0]), net[1]) if len(part) > 1]
            places = sum(map(len, parts))
            self.assertEqual(places - len(net[1]) + len(plain_faces(wheel)), 2 * len(parts), (net, wheel))
            self.assertEqual(len(next_darts(wheel)), 2 * len(net[1]))


if __name__ == "__main__":
    unittest.main()
