import collections
import random
import unittest

from checks import next_darts, plain_handles, told_kinds
from planeyard.things import is_wheel
from planeyard.wheels import faces_of, handles
from samples import (
    chance_nets, chance_tree, chance_wheel, full, hung_together, less, patched_nets, ring, sample_nets,
    side_by_side, small_nets, two_threes, wheels_of)

FLAT_FOUR = ((1, 2, 3), (0, 3, 2), (0, 1, 3), (0, 2, 1))


def many_wheels():
    dice = random.Random(31)
    pairs = [(net, wheel) for net in small_nets() for wheel in wheels_of(net)]
    for net in sample_nets()[::5] + patched_nets() + chance_nets(dice, 200):
        pairs += [(net, chance_wheel(net, dice)) for _ in range(3)]
    return pairs


def count_by_handles(net):
    return dict(collections.Counter(handles(net, wheel) for wheel in wheels_of(net)))


class Faces(unittest.TestCase):
    def test_no_edges(self):
        for count in (1, 2, 12):
            self.assertEqual(faces_of((count, ()), ((),) * count), ())

    def test_one_edge(self):
        self.assertEqual(faces_of((2, ((0, 1),)), ((1,), (0,))), (((0, 1), (1, 0)),))
        self.assertEqual(faces_of((4, ((1, 3),)), ((), (3,), (), (1,))), (((1, 3), (3, 1)),))

    def test_a_row_of_edges(self):
        self.assertEqual(faces_of((3, ((0, 1), (1, 2))), ((1,), (0, 2), (1,))),
                         (((0, 1), (1, 2), (2, 1), (1, 0)),))

    def test_a_star(self):
        net = (4, ((0, 1), (0, 2), (0, 3)))
        self.assertEqual(faces_of(net, ((1, 2, 3), (0,), (0,), (0,))),
                         (((0, 1), (1, 0), (0, 2), (2, 0), (0, 3), (3, 0)),))
        self.assertEqual(faces_of(net, ((1, 3, 2), (0,), (0,), (0,))),
                         (((0, 1), (1, 0), (0, 3), (3, 0), (0, 2), (2, 0)),))

    def test_a_ring(self):
        self.assertEqual(faces_of(ring(3), ((1, 2), (0, 2), (0, 1))),
                         (((0, 1), (1, 2), (2, 0)), ((0, 2), (2, 1), (1, 0))))

    def test_one_net_with_several_wheels(self):
        self.assertEqual(faces_of(full(4), FLAT_FOUR), (
            ((0, 1), (1, 3), (3, 0)), ((0, 2), (2, 1), (1, 0)), ((0, 3), (3, 2), (2, 0)), ((1, 2), (2, 3), (3, 1))))
        rising = ((1, 2, 3), (0, 2, 3), (0, 1, 3), (0, 1, 2))
        self.assertEqual(faces_of(full(4), rising), (
            ((0, 1), (1, 2), (2, 3), (3, 0)),
            ((0, 2), (2, 1), (1, 3), (3, 2), (2, 0), (0, 3), (3, 1), (1, 0))))

    def test_a_dart_that_is_gone_behind_the_last_one_of_a_part(self):
        # Behind the last of place 1's part comes its first one.
        net = (5, ((0, 1), (1, 2), (1, 3), (1, 4)))
        told = faces_of(net, ((1,), (0, 3, 2, 4), (1,), (1,), (1,)))
        self.assertEqual(told, (((0, 1), (1, 3), (3, 1), (1, 2), (2, 1), (1, 4), (4, 1), (1, 0)),))

    def test_several_parts_some_without_edges(self):
        net = side_by_side((1, ()), (2, ((0, 1),)), (1, ()), ring(3), (1, ()))
        wheel = ((), (2,), (1,), (), (5, 6), (4, 6), (4, 5), ())
        self.assertEqual(faces_of(net, wheel), (
            ((1, 2), (2, 1)), ((4, 5), (5, 6), (6, 4)), ((4, 6), (6, 5), (5, 4))))
        self.assertEqual(handles(net, wheel), 0)

    def test_many_wheels(self):
        for net, wheel in many_wheels():
            behind = next_darts(wheel)
            faces = faces_of(net, wheel)
            darts = [dart for face in faces for dart in face]
            self.assertEqual(sorted(darts), sorted(net[1] + tuple(edge[::-1] for edge in net[1])), (net, wheel))
            for face in faces:
                self.assertEqual(face[0], min(face), (net, wheel))
                for dart, following in zip(face, face[1:] + face[:1]):
                    self.assertEqual(behind[dart], following, (net, wheel))
            self.assertEqual(list(faces), sorted(faces, key=lambda face: face[0]), (net, wheel))

    def test_kinds_and_the_same_again(self):
        for net, wheel in many_wheels()[::7]:
            before = repr((net, wheel))
            told = faces_of(net, wheel)
            self.assertTrue(told_kinds(told))
            self.assertEqual(faces_of(net, wheel), told)
            self.assertEqual(repr((net, wheel)), before)


class Handles(unittest.TestCase):
    def test_no_edges(self):
        for count in (1, 2, 12):
            self.assertEqual(handles((count, ()), ((),) * count), 0)

    def test_trees_and_rings_have_none(self):
        dice = random.Random(32)
        for net in [chance_tree(count, dice) for count in range(1, 13)] + [ring(count) for count in range(3, 13)]:
            for _ in range(5):
                self.assertEqual(handles(net, chance_wheel(net, dice)), 0)

    def test_one_net_with_several_wheels(self):
        self.assertEqual(handles(full(4), FLAT_FOUR), 0)
        self.assertEqual(handles(full(4), ((1, 2, 3), (0, 2, 3), (0, 1, 3), (0, 1, 2))), 1)

    def test_every_wheel_of_a_net(self):
        # So many wheels with none, one, two and three handles as are known of these nets.
        self.assertEqual(count_by_handles(full(4)), {0: 2, 1: 14})
        self.assertEqual(count_by_handles(two_threes()), {1: 40, 2: 24})
        self.assertEqual(count_by_handles(full(5)), {1: 462, 2: 4974, 3: 2340})

    def test_two_rings_at_one_place(self):
        net = hung_together(ring(3), ring(3))
        self.assertEqual(handles(net, ((1, 2), (0, 2), (0, 1, 3, 4), (2, 4), (2, 3))), 0)
        self.assertEqual(handles(net, ((1, 2), (0, 2), (0, 3, 1, 4), (2, 4), (2, 3))), 1)

    def test_handles_of_several_parts_are_counted_together(self):
        rising = ((1, 2, 3), (0, 2, 3), (0, 1, 3), (0, 1, 2))
        for first, second, many in ((FLAT_FOUR, FLAT_FOUR, 0), (FLAT_FOUR, rising, 1), (rising, FLAT_FOUR, 1),
                                    (rising, rising, 2)):
            moved = tuple(tuple(place + 5 for place in part) for part in second)
            net = side_by_side(full(4), (1, ()), full(4), (1, ()))
            self.assertEqual(handles(net, first + ((),) + moved + ((),)), many)

    def test_many_wheels(self):
        seen = set()
        for net, wheel in many_wheels():
            self.assertTrue(is_wheel(wheel, net))
            told = handles(net, wheel)
            self.assertEqual(told, plain_handles(net, wheel), (net, wheel))
            self.assertIs(type(told), int)
            self.assertEqual(handles(net, wheel), told)
            seen.add(told)
        self.assertTrue(set(range(9)) <= seen, seen)

    def test_a_net_less_one_edge(self):
        self.assertEqual(count_by_handles(less(full(4), (0, 1))), {0: 2, 1: 2})

    def test_somewhat_more_places_and_edges(self):
        dice = random.Random(33)
        for net in (ring(15), full(10), side_by_side(full(7), full(7), (1, ()))):
            wheel = chance_wheel(net, dice)
            self.assertEqual(handles(net, wheel), plain_handles(net, wheel))


if __name__ == "__main__":
    unittest.main()
