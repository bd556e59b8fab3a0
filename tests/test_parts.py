import random
import unittest

from checks import (
    blocks_by_cuts, blocks_by_rings, parts_without_edge, parts_without_place, plain_bridges, plain_joints,
    plain_parts, told_kinds)
from planeyard.parts import blocks_of, bridges_of, joints_of, neighbours, parts_of
from planeyard.things import are_edges
from samples import (
    all_pairs, chance_net, chance_nets, chance_tree, crowded, edge_places, full, hung_together, less, net_with,
    nets_of, patched_nets, ring, row, sample_nets, side_by_side, small_nets, two_threes)


def many_nets():
    return sample_nets() + patched_nets() + chance_nets(random.Random(21), 400)


def trees():
    dice = random.Random(22)
    return [chance_tree(count, dice) for count in range(1, 13) for _ in range(5)]


class Neighbours(unittest.TestCase):
    def test_plain_nets(self):
        net = (6, ((0, 4), (1, 2), (1, 4), (2, 4), (3, 4)))
        for place, near in enumerate(((4,), (2, 4), (1, 4), (4,), (0, 1, 2, 3), ())):
            self.assertEqual(neighbours(net, place), near)

    def test_one_place_and_places_without_edges(self):
        self.assertEqual(neighbours((1, ()), 0), ())
        for place in range(12):
            self.assertEqual(neighbours((12, ()), place), ())

    def test_twelve_places(self):
        self.assertEqual(neighbours(crowded(12, 40), 0), tuple(range(1, 12)))
        self.assertEqual(neighbours(crowded(12, 40), 11), (0, 1, 2, 3))
        self.assertEqual(neighbours(ring(12), 0), (1, 11))
        self.assertEqual(neighbours(ring(12), 11), (0, 10))

    def test_many_nets(self):
        for net in many_nets():
            for place, near in enumerate(edge_places(net)):
                told = neighbours(net, place)
                self.assertEqual(told, tuple(sorted(near)), net)
                self.assertTrue(told_kinds(told), net)
                self.assertEqual(neighbours(net, place), told)


class Parts(unittest.TestCase):
    def test_plain_nets(self):
        for net, parts in (
            ((1, ()), ((0,),)),
            ((4, ()), ((0,), (1,), (2,), (3,))),
            ((2, ((0, 1),)), ((0, 1),)),
            ((6, ((0, 5), (1, 3), (2, 5))), ((0, 2, 5), (1, 3), (4,))),
            ((6, ((0, 5), (1, 2), (1, 3))), ((0, 5), (1, 2, 3), (4,))),
            (net_with(7, [(6, 0), (5, 1), (4, 2), (6, 3)]), ((0, 3, 6), (1, 5), (2, 4))),
            (side_by_side(ring(3), ring(3)), ((0, 1, 2), (3, 4, 5))),
            ((12, ()), tuple((place,) for place in range(12))),
            (ring(12), (tuple(range(12)),)),
            (row(12), (tuple(range(12)),)),
            (crowded(12, 40), (tuple(range(12)),)),
            (net_with(12, [(k, 11 - k) for k in range(6)]), tuple((k, 11 - k) for k in range(6))),
        ):
            self.assertEqual(parts_of(net), parts)

    def test_a_part_that_is_come_to_by_turns_up_and_down(self):
        zigzag = net_with(12, [(0, 11), (11, 1), (1, 10), (10, 2), (2, 9), (9, 3), (3, 8), (8, 4), (4, 7), (7, 5)])
        self.assertEqual(parts_of(zigzag), ((0, 1, 2, 3, 4, 5, 7, 8, 9, 10, 11), (6,)))

    def test_many_nets(self):
        for net in many_nets():
            told = parts_of(net)
            self.assertEqual(told, tuple(plain_parts(range(net[0]), net[1])), net)
            self.assertTrue(told_kinds(told), net)
            self.assertEqual(parts_of(net), told)

    def test_sparse_nets(self):
        dice = random.Random(23)
        for count in range(2, 13):
            for _ in range(30):
                net = chance_net(count, dice.randrange(count), dice)
                self.assertEqual(parts_of(net), tuple(plain_parts(range(count), net[1])), net)


class Blocks(unittest.TestCase):
    def test_no_edges(self):
        for count in (1, 2, 12):
            self.assertEqual(blocks_of((count, ())), ())
            self.assertEqual(bridges_of((count, ())), ())
            self.assertEqual(joints_of((count, ())), ())

    def test_one_edge(self):
        self.assertEqual(blocks_of((2, ((0, 1),))), (((0, 1),),))
        self.assertEqual(bridges_of((2, ((0, 1),))), ((0, 1),))
        self.assertEqual(joints_of((2, ((0, 1),))), ())
        self.assertEqual(blocks_of((5, ((1, 3),))), (((1, 3),),))
        self.assertEqual(bridges_of((5, ((1, 3),))), ((1, 3),))
        self.assertEqual(joints_of((5, ((1, 3),))), ())

    def test_trees(self):
        for net in trees():
            self.assertEqual(blocks_of(net), tuple((edge,) for edge in net[1]))
            self.assertEqual(bridges_of(net), net[1])
            inner = tuple(place for place, near in enumerate(edge_places(net)) if len(near) > 1)
            self.assertEqual(joints_of(net), inner)

    def test_one_block_alone(self):
        nets = [ring(count) for count in range(3, 13)] + [full(count) for count in range(3, 10)]
        nets += [two_threes(), crowded(12, 40), less(full(4), (0, 1)), net_with(6, ring(6)[1] + ((0, 3),))]
        for net in nets:
            self.assertEqual(blocks_of(net), (net[1],))
            self.assertEqual(bridges_of(net), ())
            self.assertEqual(joints_of(net), ())

    def test_two_rings_with_one_place_in_common(self):
        net = hung_together(ring(3), ring(4))
        self.assertEqual(blocks_of(net), (((0, 1), (0, 2), (1, 2)), ((2, 3), (2, 5), (3, 4), (4, 5))))
        self.assertEqual(bridges_of(net), ())
        self.assertEqual(joints_of(net), (2,))

    def test_two_rings_with_two_places_in_common(self):
        net = net_with(6, [(0, 2), (2, 1), (1, 3), (3, 0), (0, 4), (4, 1), (1, 5), (5, 0)])
        self.assertEqual(blocks_of(net), (net[1],))
        self.assertEqual(bridges_of(net), ())
        self.assertEqual(joints_of(net), ())

    def test_rings_hung_together_by_bridges(self):
        net = net_with(8, [(0, 4), (4, 6), (0, 6), (6, 1), (1, 2), (2, 3), (3, 5), (5, 2), (3, 7)])
        self.assertEqual(blocks_of(net), (((0, 4), (0, 6), (4, 6)), ((1, 2),), ((1, 6),), ((2, 3), (2, 5), (3, 5)),
                                          ((3, 7),)))
        self.assertEqual(bridges_of(net), ((1, 2), (1, 6), (3, 7)))
        self.assertEqual(joints_of(net), (1, 2, 3, 6))

    def test_blocks_whose_edges_stand_in_one_another(self):
        net = net_with(6, [(0, 2), (2, 4), (0, 4), (1, 3), (3, 5), (1, 5), (0, 1)])
        self.assertEqual(blocks_of(net), (((0, 1),), ((0, 2), (0, 4), (2, 4)), ((1, 3), (1, 5), (3, 5))))
        star = net_with(7, [(0, 1), (1, 6), (0, 6), (0, 2), (2, 5), (0, 5), (0, 3), (3, 4), (0, 4)])
        self.assertEqual(blocks_of(star), (((0, 1), (0, 6), (1, 6)), ((0, 2), (0, 5), (2, 5)),
                                           ((0, 3), (0, 4), (3, 4))))
        self.assertEqual(joints_of(star), (0,))

    def test_several_parts(self):
        net = side_by_side((1, ()), ring(3), row(3), (2, ()))
        self.assertEqual(blocks_of(net), (((1, 2), (1, 3), (2, 3)), ((4, 5),), ((5, 6),)))
        self.assertEqual(bridges_of(net), ((4, 5), (5, 6)))
        self.assertEqual(joints_of(net), (5,))

    def test_blocks_by_all_rings(self):
        nets = list(small_nets()) + list(nets_of(5))[::3] + patched_nets()
        dice = random.Random(24)
        nets += [chance_net(count, dice.randint(0, count + 3), dice) for count in range(5, 13) for _ in range(12)]
        for net in nets:
            self.assertEqual(blocks_of(net), blocks_by_rings(net), net)

    def test_blocks_of_nets_with_many_edges(self):
        dice = random.Random(25)
        nets = [chance_net(count, dice.randint(count, 20), dice) for count in range(6, 13) for _ in range(3)]
        for net in nets + [crowded(12, 22), (12, all_pairs(12)[-28:])]:
            self.assertEqual(blocks_of(net), blocks_by_cuts(net), net)

    def test_the_two_plain_checks_agree(self):
        for net in patched_nets()[::2] + [row(4), ring(5), full(4), less(full(5), (1, 3))]:
            self.assertEqual(blocks_by_rings(net), blocks_by_cuts(net))

    def test_each_edge_is_in_just_one_block(self):
        for net in many_nets():
            blocks = blocks_of(net)
            self.assertEqual(sorted(edge for block in blocks for edge in block), list(net[1]), net)
            self.assertTrue(all(block and are_edges(block, net) for block in blocks), net)
            firsts = [block[0] for block in blocks]
            self.assertEqual(firsts, sorted(firsts), net)

    def test_bridges_and_joints_by_the_count_of_parts(self):
        for net in many_nets() + trees():
            self.assertEqual(bridges_of(net), plain_bridges(net), net)
            self.assertEqual(joints_of(net), plain_joints(net), net)

    def test_the_count_of_parts_without_an_edge_or_a_place(self):
        net = hung_together(ring(3), row(3))
        self.assertEqual(len(parts_without_edge(net, (0, 1))), 1)
        self.assertEqual(len(parts_without_edge(net, (2, 3))), 2)
        self.assertEqual(len(parts_without_place(net, 0)), 1)
        self.assertEqual(len(parts_without_place(net, 2)), 2)

    def test_kinds_and_the_same_again(self):
        for net in many_nets()[::3]:
            before = repr(net)
            for told in (parts_of, blocks_of, bridges_of, joints_of):
                answer = told(net)
                self.assertTrue(told_kinds(answer), net)
                self.assertIs(type(answer), tuple)
                self.assertEqual(told(net), answer)
            self.assertEqual(repr(net), before)

    def test_somewhat_more_places_and_edges(self):
        net = hung_together(full(8), full(8))
        self.assertEqual([len(block) for block in blocks_of(net)], [28, 28])
        self.assertEqual(joints_of(net), (7,))
        self.assertEqual(bridges_of(row(16)), row(16)[1])
        self.assertEqual(parts_of(ring(16)), (tuple(range(16)),))
        self.assertEqual(neighbours(full(15), 14), tuple(range(14)))


if __name__ == "__main__":
    unittest.main()
