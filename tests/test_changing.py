import itertools
import random
import unittest

from checks import (
    is_plain_wheel, plain_faces, plain_handles, plain_parts, plain_sides, plain_together, plain_with_edge,
    plain_without, told_kinds)
from planeyard.changing import beside, drawn_together, renamed, with_edge, without
from planeyard.drawing import drawn
from planeyard.errors import NoEdge, NoFace, NoRoom
from planeyard.parts import bridges_of
from planeyard.things import is_net, is_wheel
from planeyard.wheels import faces_of, handles
from samples import (
    all_pairs, big_nets, chance_flat_wheel, chance_net, chance_nets, chance_tree, chance_wheel, crowded, dart_pairs,
    fan, flat_wheels, full, hung_together, less, named, net_with, odd_things, patched_nets, ring, row, sample_nets,
    side_by_side, small_nets, two_threes, wheels_of, with_truth)

FLAT_FOUR = ((1, 2, 3), (0, 3, 2), (0, 1, 3), (0, 2, 1))
SQUARE = ring(4)
SQUARE_WHEEL = ((1, 3), (0, 2), (1, 3), (0, 2))


def many_flat_wheels(seed, many):
    dice = random.Random(seed)
    pairs = [(net, wheel) for net in small_nets() for wheel in wheels_of(net) if plain_handles(net, wheel) == 0]
    pairs += flat_wheels(dice, many)
    for net in patched_nets() + [fan(12)]:
        kind, wheel = drawn(net)
        if kind == "wheel":
            pairs.append((net, wheel))
    return pairs


def all_darts(net):
    return net[1] + tuple(edge[::-1] for edge in net[1])


def neighbour_ahead(wheel, place, near):
    """The one that stands just ahead of near in the place's part."""
    return wheel[place][wheel[place].index(near) - 1]


class Refusing(unittest.TestCase):
    def refused(self, error, function, *handed):
        before = repr(handed)
        with self.assertRaises(error) as caught:
            function(*handed)
        self.assertIs(type(caught.exception), error, handed)
        self.assertEqual(repr(handed), before)

    def told(self, function, *handed):
        """What is told, the same again, of the right kinds, with nothing changed that was handed in."""
        before = repr(handed)
        answer = function(*handed)
        self.assertTrue(told_kinds(answer), handed)
        self.assertEqual(function(*handed), answer)
        self.assertEqual(repr(handed), before)
        return answer

    def no_edges(self, function, *handed):
        """Each thing that is no edge of a net where one is asked for: refused, the net being handed in first."""
        net = handed[0]
        for thing in [pair for pair in itertools.product(range(-1, net[0] + 1), repeat=2) if pair not in net[1]]:
            self.refused(NoEdge, function, *handed, thing)
        for edge in net[1]:
            for thing in (edge[::-1], list(edge), edge + (0,), edge[:1], (edge,), (str(edge[0]), edge[1]),
                          (edge[0], None), str(edge)):
                self.refused(NoEdge, function, *handed, thing)
            for half in (0, 1):
                if edge[half] in (0, 1):
                    self.refused(NoEdge, function, *handed, with_truth(edge, half))


class Without(Refusing):
    def test_plain_wheels(self):
        self.assertEqual(without((2, ((0, 1),)), ((1,), (0,)), (0, 1)), ((2, ()), ((), ())))
        self.assertEqual(without(ring(3), ((1, 2), (0, 2), (0, 1)), (0, 1)),
                         ((3, ((0, 2), (1, 2))), ((2,), (2,), (0, 1))))
        self.assertEqual(without(row(3), ((1,), (0, 2), (1,)), (1, 2)), ((3, ((0, 1),)), ((1,), (0,), ())))
        self.assertEqual(without(full(4), FLAT_FOUR, (1, 2)),
                         (less(full(4), (1, 2)), ((1, 2, 3), (0, 3), (0, 3), (0, 2, 1))))

    def test_the_least_neighbour_goes(self):
        # At each end the least neighbour goes, and the next least one is not the next in its part.
        self.assertEqual(without(full(4), FLAT_FOUR, (0, 1)),
                         (less(full(4), (0, 1)), ((2, 3), (2, 3), (0, 1, 3), (0, 2, 1))))
        net = net_with(6, [(0, 1), (0, 2), (0, 3), (0, 4), (1, 3), (1, 4), (1, 5)])
        wheel = ((1, 3, 4, 2), (0, 4, 3, 5), (0,), (0, 1), (0, 1), (1,))
        self.assertEqual(without(net, wheel, (0, 1)), (less(net, (0, 1)), (
            (2, 3, 4), (3, 5, 4), (0,), (0, 1), (0, 1), (1,))))

    def test_every_edge_of_many_flat_wheels(self):
        for net, wheel in many_flat_wheels(101, 200):
            for edge in net[1]:
                told = self.told(without, net, wheel, edge)
                self.assertEqual(told, plain_without(net, wheel, edge), (net, wheel, edge))
                fewer, rest = told
                self.assertTrue(is_net(fewer) and is_wheel(rest, fewer) and is_plain_wheel(rest, fewer))
                self.assertEqual(fewer, less(net, edge))
                self.assertEqual(handles(fewer, rest), 0)
                self.assertEqual(plain_handles(fewer, rest), 0)

    def test_wheels_with_handles(self):
        dice = random.Random(102)
        for net in chance_nets(dice, 60):
            wheel = chance_wheel(net, dice)
            for edge in net[1][::3]:
                self.assertEqual(without(net, wheel, edge), plain_without(net, wheel, edge))

    def test_all_edges_one_after_another(self):
        dice = random.Random(103)
        for net, wheel in flat_wheels(dice, 40):
            edges = list(net[1])
            dice.shuffle(edges)
            for edge in edges:
                net, wheel = without(net, wheel, edge)
                self.assertTrue(is_wheel(wheel, net) and handles(net, wheel) == 0)
            self.assertEqual((net[1], wheel), ((), ((),) * net[0]))

    def test_no_such_edge(self):
        self.no_edges(without, full(4), FLAT_FOUR)
        self.no_edges(without, SQUARE, SQUARE_WHEEL)
        self.no_edges(without, (1, ()), ((),))
        self.no_edges(without, (3, ((1, 2),)), ((), (2,), (1,)))
        self.refused(NoEdge, without, row(12), tuple(tuple(sorted(near)) for near in drawn(row(12))[1]), (0, 11))

    def test_things_of_other_kinds(self):
        for thing in odd_things():
            self.refused(NoEdge, without, full(4), FLAT_FOUR, thing)


class WithEdge(Refusing):
    def test_plain_wheels(self):
        self.assertEqual(with_edge(row(3), ((1,), (0, 2), (1,)), (1, 0), (1, 2)),
                         (ring(3), ((1, 2), (0, 2), (0, 1))))
        # Into the square's faces: the one goes 0, 1, 2, 3, the other 0, 3, 2, 1.
        chord = net_with(4, SQUARE[1] + ((0, 2),))
        self.assertEqual(with_edge(SQUARE, SQUARE_WHEEL, (3, 0), (1, 2)),
                         (chord, ((1, 3, 2), (0, 2), (0, 3, 1), (0, 2))))
        self.assertEqual(with_edge(SQUARE, SQUARE_WHEEL, (1, 0), (3, 2)),
                         (chord, ((1, 2, 3), (0, 2), (0, 1, 3), (0, 2))))
        chord = net_with(4, SQUARE[1] + ((1, 3),))
        self.assertEqual(with_edge(SQUARE, SQUARE_WHEEL, (0, 1), (2, 3)),
                         (chord, ((1, 3), (0, 3, 2), (1, 3), (0, 2, 1))))

    def test_either_dart_first(self):
        for dart, other in (((3, 0), (1, 2)), ((1, 0), (3, 2)), ((0, 1), (2, 3)), ((0, 3), (2, 1))):
            self.assertEqual(with_edge(SQUARE, SQUARE_WHEEL, dart, other),
                             with_edge(SQUARE, SQUARE_WHEEL, other, dart))

    def test_where_a_place_is_met_by_several_darts_of_the_face(self):
        # A star of three and an edge on: the one face comes three times to place 0, each time from another side.
        net = net_with(5, [(0, 1), (0, 2), (0, 3), (3, 4)])
        wheel = ((1, 2, 3), (0,), (0,), (0, 4), (3,))
        for came, part in ((1, (1, 4, 2, 3)), (2, (1, 2, 4, 3)), (3, (1, 2, 3, 4))):
            self.assertEqual(with_edge(net, wheel, (came, 0), (3, 4))[1], (part, (0,), (0,), (0, 4), (0, 3)))

    def test_a_least_neighbour_comes(self):
        # Four places with all edges, and place 0 hung on 1: the place that 0 is joined with gets a less neighbour.
        net = net_with(5, [(0, 1), (1, 2), (1, 3), (1, 4), (2, 3), (2, 4), (3, 4)])
        wheel = ((1,), (0, 2, 3, 4), (1, 4, 3), (1, 2, 4), (1, 3, 2))
        self.assertEqual(with_edge(net, wheel, (1, 0), (1, 2))[1],
                         ((1, 2), (0, 2, 3, 4), (0, 4, 3, 1), (1, 2, 4), (1, 3, 2)))
        self.assertEqual(with_edge(net, wheel, (2, 4), (1, 0))[1],
                         ((1, 4), (0, 2, 3, 4), (1, 4, 3), (1, 2, 4), (0, 1, 3, 2)))

    def test_every_two_darts_of_each_face(self):
        many = 0
        for net, wheel in many_flat_wheels(104, 120):
            for dart, other in dart_pairs(net, wheel):
                told = self.told(with_edge, net, wheel, dart, other)
                self.assertEqual(told, plain_with_edge(net, wheel, dart, other), (net, wheel, dart, other))
                more, wider = told
                self.assertTrue(is_net(more) and is_wheel(wider, more) and is_plain_wheel(wider, more))
                self.assertEqual(more, net_with(net[0], net[1] + ((dart[1], other[1]),)))
                self.assertEqual((handles(more, wider), plain_handles(more, wider)), (0, 0))
                many += 1
        self.assertGreater(many, 3000)

    def test_one_face_becomes_two(self):
        for net, wheel in many_flat_wheels(105, 60):
            faces = plain_faces(wheel)
            for dart, other in dart_pairs(net, wheel)[::3]:
                more, wider = with_edge(net, wheel, dart, other)
                parted_face = next(face for face in faces if dart in face)
                told = [tuple(sorted(face)) for face in faces_of(more, wider)]
                self.assertEqual(len(told), len(faces) + 1)
                rest = [face for face in told if face not in faces]
                self.assertEqual(sorted(rest + [face for face in faces if face != parted_face]), sorted(told))
                self.assertEqual(len(rest), 2)
                new = {(dart[1], other[1]), (other[1], dart[1])}
                self.assertEqual({each for face in rest for each in face}, set(parted_face) | new)
                # Behind each of the two darts the new edge is gone, away from where it ends.
                for first, second in ((dart, other), (other, dart)):
                    face = next(face for face in faces_of(more, wider) if first in face)
                    self.assertEqual(face[(face.index(first) + 1) % len(face)], (first[1], second[1]))

    def test_put_in_and_taken_out_again(self):
        for net, wheel in many_flat_wheels(106, 80):
            for dart, other in dart_pairs(net, wheel)[::2]:
                more, wider = with_edge(net, wheel, dart, other)
                self.assertEqual(without(more, wider, tuple(sorted((dart[1], other[1])))), (net, wheel))

    def test_taken_out_and_put_in_again(self):
        many = 0
        for net, wheel in many_flat_wheels(107, 250):
            bridges = bridges_of(net)
            for one, other in net[1]:
                fewer, rest = without(net, wheel, (one, other))
                ahead = (neighbour_ahead(wheel, one, other), one)
                back = (neighbour_ahead(wheel, other, one), other)
                if (one, other) in bridges:
                    # Taken out, a bridge leaves no face that both its ends are in.
                    self.refused(NoFace, with_edge, fewer, rest, ahead, back)
                else:
                    self.assertEqual(with_edge(fewer, rest, ahead, back), (net, wheel))
                    self.assertEqual(with_edge(fewer, rest, back, ahead), (net, wheel))
                    many += 1
        self.assertGreater(many, 1000)

    def test_from_a_tree_on_until_no_edge_more_is_possible(self):
        dice = random.Random(108)
        for count in range(3, 13):
            net = chance_tree(count, dice)
            wheel = chance_wheel(net, dice)
            pairs = dart_pairs(net, wheel)
            while pairs:
                net, wheel = with_edge(net, wheel, *dice.choice(pairs))
                self.assertTrue(is_wheel(wheel, net) and handles(net, wheel) == 0)
                pairs = dart_pairs(net, wheel)
            self.assertTrue(all(one != other for one, other in plain_sides(net, wheel)))

    def test_no_darts_of_one_face(self):
        for net, wheel in many_flat_wheels(109, 25):
            face_of = {dart: face for face in plain_faces(wheel) for dart in face}
            for dart, other in itertools.product(all_darts(net), repeat=2):
                if face_of[dart] != face_of[other]:
                    self.refused(NoFace, with_edge, net, wheel, dart, other)

    def test_no_face_comes_ahead_of_no_edge(self):
        # Neighbours, and the same place, but darts of two faces.
        self.refused(NoFace, with_edge, ring(3), ((1, 2), (0, 2), (0, 1)), (0, 1), (0, 2))
        self.refused(NoFace, with_edge, ring(3), ((1, 2), (0, 2), (0, 1)), (0, 1), (2, 1))
        net = crowded(12, 40)
        wheel = chance_wheel(net, random.Random(110))
        faces = plain_faces(wheel)
        self.assertGreater(len(faces), 1)
        self.refused(NoFace, with_edge, net, wheel, faces[0][0], faces[1][0])
        self.refused(NoFace, with_edge, net, wheel, (10, 11), (0, 1))
        self.refused(NoFace, with_edge, net, wheel, (0, 1), (11, 10))
        self.refused(NoFace, with_edge, net, wheel, (0, 1), None)

    def test_what_is_no_dart(self):
        pairs = [pair for pair in itertools.product(range(-1, 6), repeat=2) if pair not in all_darts(SQUARE)]
        things = pairs + [thing for thing in odd_things() if thing not in pairs]
        things += [[0, 1], (0, 1, 2), (0,), ((0, 1),), ("0", "1"), "01", (0, None), (None, 1), (0, [1])]
        things += [with_truth((0, 1), 0), with_truth((0, 1), 1), with_truth((1, 2), 0), with_truth((3, 0), 1)]
        for thing in things:
            for dart in all_darts(SQUARE):
                self.refused(NoFace, with_edge, SQUARE, SQUARE_WHEEL, thing, dart)
                self.refused(NoFace, with_edge, SQUARE, SQUARE_WHEEL, dart, thing)
            self.refused(NoFace, with_edge, SQUARE, SQUARE_WHEEL, thing, thing)
            self.refused(NoFace, with_edge, (4, ()), ((),) * 4, thing, thing)

    def test_neighbours_and_the_same_place(self):
        for net, wheel in many_flat_wheels(111, 25):
            fine = dart_pairs(net, wheel)
            for face in plain_faces(wheel):
                for dart, other in itertools.product(face, repeat=2):
                    if (dart, other) not in fine:
                        self.refused(NoEdge, with_edge, net, wheel, dart, other)

    def test_at_thirty_nine_and_forty_edges(self):
        dice = random.Random(112)
        for count in (10, 11, 12):
            net = chance_net(count, 39, dice)
            wheel = chance_wheel(net, dice)
            pairs = dart_pairs(net, wheel)
            while not pairs:
                wheel = chance_wheel(net, dice)
                pairs = dart_pairs(net, wheel)
            more, wider = with_edge(net, wheel, *pairs[0])
            self.assertTrue(is_net(more) and is_wheel(wider, more))
            self.assertEqual(len(more[1]), 40)
            self.assertEqual((more, wider), plain_with_edge(net, wheel, *pairs[0]))
            self.assertEqual(len(faces_of(more, wider)), len(faces_of(net, wheel)) + 1)
            for dart, other in dart_pairs(more, wider):
                self.refused(NoEdge, with_edge, more, wider, dart, other)

    def test_at_forty_edges_of_a_flat_wheel_with_more_places(self):
        dice = random.Random(113)
        net, wheel = chance_flat_wheel(18, 40, dice)
        self.assertEqual(len(net[1]), 40)
        pairs = dart_pairs(net, wheel)
        self.assertTrue(pairs)
        for dart, other in pairs:
            self.refused(NoEdge, with_edge, net, wheel, dart, other)


class DrawnTogether(Refusing):
    def test_plain_nets(self):
        for net, edge, told in (
            ((2, ((0, 1),)), (0, 1), (1, ())),
            (row(4), (0, 1), row(3)), (row(4), (1, 2), row(3)), (row(4), (2, 3), row(3)),
            (ring(3), (0, 1), row(2)), (ring(3), (0, 2), row(2)), (ring(3), (1, 2), row(2)),
            (ring(5), (0, 4), ring(4)), (full(5), (1, 3), full(4)), (full(9), (0, 8), full(8)),
            ((5, ((1, 3),)), (1, 3), (4, ())),
            ((6, ((0, 5), (1, 4), (2, 3), (3, 5))), (1, 4), (5, ((0, 4), (2, 3), (3, 4)))),
            ((6, ((0, 2), (0, 5), (2, 3), (3, 5))), (0, 5), (5, ((0, 2), (0, 3), (2, 3)))),
        ):
            self.assertEqual(drawn_together(net, edge), told, (net, edge))

    def test_first_and_last_places(self):
        net = net_with(12, [(0, 11), (0, 1), (1, 11), (5, 11), (10, 11), (0, 10)])
        self.assertEqual(drawn_together(net, (0, 11)), (11, ((0, 1), (0, 5), (0, 10))))
        self.assertEqual(drawn_together(net, (10, 11)), (11, ((0, 1), (0, 10), (1, 10), (5, 10))))
        self.assertEqual(drawn_together(net, (0, 1)), (11, ((0, 9), (0, 10), (4, 10), (9, 10))))

    def test_edges_that_fall_together(self):
        net = net_with(7, [(0, 6), (0, 2), (2, 6), (0, 3), (3, 6), (4, 6), (0, 5)])
        self.assertEqual(drawn_together(net, (0, 6)), (6, ((0, 2), (0, 3), (0, 4), (0, 5))))

    def test_every_edge_of_many_nets(self):
        for net in sample_nets()[::2] + patched_nets() + chance_nets(random.Random(114), 150):
            for edge in net[1]:
                told = self.told(drawn_together, net, edge)
                self.assertEqual(told, plain_together(net, edge), (net, edge))
                self.assertTrue(is_net(told))
                self.assertLess(len(told[1]), len(net[1]))

    def test_until_no_edge_is_left(self):
        dice = random.Random(115)
        for net in chance_nets(dice, 50):
            parts = plain_parts(range(net[0]), net[1])
            while net[1]:
                net = drawn_together(net, dice.choice(net[1]))
                self.assertTrue(is_net(net))
            self.assertEqual(net, (len(parts), ()))

    def test_no_such_edge(self):
        for net in (full(4), SQUARE, (1, ()), (3, ((1, 2),)), net_with(6, [(0, 5), (1, 4), (0, 1)])):
            self.no_edges(drawn_together, net)
        for thing in odd_things():
            self.refused(NoEdge, drawn_together, full(4), thing)


class Renamed(Refusing):
    def test_plain_nets(self):
        for net, names, told in (
            ((1, ()), (0,), (1, ())), ((3, ()), (2, 0, 1), (3, ())),
            ((2, ((0, 1),)), (1, 0), (2, ((0, 1),))),
            ((3, ((0, 1),)), (2, 0, 1), (3, ((0, 2),))), ((3, ((0, 1),)), (1, 2, 0), (3, ((1, 2),))),
            (row(4), (3, 0, 2, 1), (4, ((0, 2), (0, 3), (1, 2)))),
        ):
            self.assertEqual(renamed(net, names), told, (net, names))

    def test_place_k_becomes_the_kth_name(self):
        # A way round of three names tells the names from the same ones turned back.
        self.assertEqual(renamed((3, ((0, 1),)), (1, 2, 0)), (3, ((1, 2),)))
        self.assertEqual(renamed((3, ((0, 1),)), (2, 0, 1)), (3, ((0, 2),)))

    def test_all_names_of_small_nets(self):
        for net in small_nets():
            for names in itertools.permutations(range(net[0])):
                told = renamed(net, names)
                self.assertEqual(told, named(net, names))
                self.assertTrue(is_net(told))

    def test_names_turned_back(self):
        dice = random.Random(116)
        for net in list(big_nets()) + patched_nets() + chance_nets(dice, 150):
            names = tuple(dice.sample(range(net[0]), net[0]))
            back = tuple(names.index(place) for place in range(net[0]))
            told = self.told(renamed, net, names)
            self.assertTrue(is_net(told) == is_net(net))
            self.assertEqual(told, named(net, names))
            self.assertEqual(len(told[1]), len(net[1]))
            self.assertEqual(renamed(told, back), net)
            self.assertEqual(renamed(net, tuple(range(net[0]))), net)


class Beside(Refusing):
    def test_plain_nets(self):
        self.assertEqual(beside((1, ()), (1, ())), (2, ()))
        self.assertEqual(beside(row(2), ring(3)), (5, ((0, 1), (2, 3), (2, 4), (3, 4))))
        self.assertEqual(beside(ring(3), row(2)), (5, ((0, 1), (0, 2), (1, 2), (3, 4))))
        self.assertEqual(beside((2, ()), (3, ((0, 2),))), (5, ((2, 4),)))
        self.assertEqual(beside((3, ((0, 2),)), (2, ())), (5, ((0, 2),)))

    def test_just_twelve_places_and_thirteen(self):
        for count in range(1, 12):
            self.assertEqual(beside((count, ()), (12 - count, ())), (12, ()))
            self.assertEqual(beside(row(count), row(12 - count)), side_by_side(row(count), row(12 - count)))
            self.refused(NoRoom, beside, (count, ()), (13 - count, ()))
            self.refused(NoRoom, beside, row(13 - count), row(count))
        self.refused(NoRoom, beside, (12, ()), (1, ()))
        self.refused(NoRoom, beside, (1, ()), (12, ()))
        self.refused(NoRoom, beside, (12, ()), (12, ()))

    def test_just_forty_edges_and_forty_one(self):
        for one, other in ((crowded(10, 39), row(2)), (row(2), crowded(10, 39)), (crowded(10, 40), (2, ())),
                           (full(9), ring(3)), (ring(3), full(9))):
            self.assertEqual(beside(one, other), side_by_side(one, other))
            self.assertIn(len(beside(one, other)[1]), (39, 40))
        self.refused(NoRoom, beside, crowded(10, 40), row(2))
        self.refused(NoRoom, beside, row(2), crowded(10, 40))

    def test_both_too_many(self):
        self.refused(NoRoom, beside, full(9), full(9))
        self.refused(NoRoom, beside, crowded(12, 40), crowded(12, 40))

    def test_many_nets(self):
        dice = random.Random(117)
        nets = sample_nets() + patched_nets() + [two_threes(), hung_together(full(4), full(4))]
        fits = 0
        for _ in range(1500):
            one, other = dice.choice(nets), dice.choice(nets)
            whole = side_by_side(one, other)
            if is_net(whole):
                self.assertEqual(self.told(beside, one, other), whole)
                fits += 1
            else:
                self.refused(NoRoom, beside, one, other)
        self.assertGreater(fits, 400)
        self.assertLess(fits, 1450)

    def test_pairs_by_their_places(self):
        for one, other in itertools.product(range(1, 7), repeat=2):
            whole = beside((one, all_pairs(one)), (other, all_pairs(other)))
            self.assertEqual(whole, side_by_side(full(one), full(other)))


if __name__ == "__main__":
    unittest.main()
