import itertools
import math
import random
import unittest

from checks import is_plain_wheel, knot_fault, plain_handles, plain_together, told_kinds
from planeyard.drawing import drawn
from planeyard.parts import blocks_of
from planeyard.things import are_edges, is_net, is_wheel
from planeyard.wheels import handles
from samples import (
    all_pairs, big_nets, chance_flat_net, chance_knot_net, chance_net, chance_nets, chance_tree, crowded,
    crowded_by_chance, edge_places, fan, full, full_flat_net, hung_together, less, named, net_with, nets_of,
    patched_nets, place_put_on, ring, row, shuffled, side_by_side, small_nets, stretched, two_threes, wheels_of)


def many_wheels(net):
    return math.prod(math.factorial(max(0, len(near) - 1)) for near in edge_places(net))


class Judging(unittest.TestCase):
    def judged(self, net):
        """Whether a flat wheel is told, or a knot; what is told is looked through first."""
        answer = drawn(net)
        self.assertTrue(told_kinds(answer) and type(answer) is tuple and len(answer) == 2, net)
        kind, thing = answer
        if kind == "wheel":
            self.assertIs(is_wheel(thing, net), True, net)
            self.assertEqual(handles(net, thing), 0, net)
            self.assertTrue(is_plain_wheel(thing, net), net)
            self.assertEqual(plain_handles(net, thing), 0, net)
        else:
            self.assertEqual(kind, "knot", net)
            self.assertIs(are_edges(thing, net), True, net)
            self.assertIsNone(knot_fault(thing, net), (net, thing))
        return kind

    def flat(self, net):
        self.assertEqual(self.judged(net), "wheel", net)

    def knotted(self, net):
        self.assertEqual(self.judged(net), "knot", net)


class Shapes(Judging):
    def test_no_edges(self):
        for count in range(1, 13):
            self.assertEqual(drawn((count, ())), ("wheel", ((),) * count))

    def test_nets_with_one_wheel_alone(self):
        self.assertEqual(drawn((2, ((0, 1),))), ("wheel", ((1,), (0,))))
        self.assertEqual(drawn((4, ((1, 3),))), ("wheel", ((), (3,), (), (1,))))
        self.assertEqual(drawn(ring(3)), ("wheel", ((1, 2), (0, 2), (0, 1))))
        self.assertEqual(drawn(row(4)), ("wheel", ((1,), (0, 2), (1, 3), (2,))))

    def test_nets_with_one_knot_alone(self):
        self.assertEqual(drawn(full(5)), ("knot", full(5)[1]))
        self.assertEqual(drawn(two_threes()), ("knot", two_threes()[1]))
        for net in (full(5), two_threes()):
            self.assertEqual(drawn(side_by_side(ring(3), net)), ("knot", side_by_side((3, ()), net)[1]))
            self.assertEqual(drawn(hung_together(row(3), net, ring(3))), ("knot", hung_together(row(3), net)[1][2:]))

    def test_trees_rings_and_fans(self):
        dice = random.Random(41)
        for count in range(1, 13):
            self.flat(chance_tree(count, dice))
            self.flat(row(count))
            if count > 2:
                self.flat(ring(count))
                self.flat(fan(count))
                self.flat(shuffled(fan(count), dice))

    def test_full_nets(self):
        for count in range(1, 5):
            self.flat(full(count))
        for count in range(5, 10):
            self.knotted(full(count))

    def test_less_any_one_edge(self):
        for net in (full(5), two_threes()):
            for edge in net[1]:
                self.flat(less(net, edge))

    def test_places_put_on_ways(self):
        dice = random.Random(42)
        for net in (full(5), two_threes()):
            for edge in net[1]:
                self.knotted(place_put_on(net, edge))
            for count in range(net[0], 13):
                for _ in range(6):
                    longer = shuffled(stretched(net, count, dice), dice)
                    # There is one knot alone, and it has all the edges.
                    self.assertEqual(drawn(longer), ("knot", longer[1]))
                    self.knotted(longer)
                    self.flat(less(longer, dice.choice(longer[1])))

    def test_a_knot_with_more_beside_and_hung_on(self):
        for net in (full(5), two_threes()):
            for more in ((1, ()), (4, ()), row(4), ring(3), ring(5), full(4), fan(5), full(5), two_threes()):
                for whole in (side_by_side(net, more), side_by_side(more, net), hung_together(net, more),
                              hung_together(more, net), hung_together(more, row(2), net),
                              hung_together(net, more, net)):
                    if is_net(whole):
                        self.knotted(whole)

    def test_a_flat_net_with_more_beside_and_hung_on(self):
        flat_nets = [less(full(5), (1, 3)), less(two_threes(), (0, 4)), full(4), ring(4), row(3), fan(6), (2, ())]
        for one, other in itertools.product(flat_nets, repeat=2):
            for whole in (side_by_side(one, other), hung_together(one, other), hung_together(one, row(2), other)):
                if is_net(whole):
                    self.flat(whole)

    def test_knots_among_more_edges(self):
        dice = random.Random(43)
        for count in range(6, 13):
            for _ in range(30):
                self.knotted(chance_knot_net(count, dice.randint(9, 40), dice))

    def test_known_nets(self):
        # Ten places in two rings of five with spokes; a ring of eight with its long chords; both have knots.
        petersen = [(k, (k + 1) % 5) for k in range(5)] + [(k, k + 5) for k in range(5)]
        petersen += [(k + 5, (k + 2) % 5 + 5) for k in range(5)]
        self.knotted(net_with(10, petersen))
        self.knotted(net_with(8, ring(8)[1] + tuple((k, k + 4) for k in range(4))))
        # Six places with all edges but those of opposite ones; eight places as a cube; twelve with five edges each.
        self.flat(net_with(6, [pair for pair in all_pairs(6) if sum(pair) != 5]))
        self.flat(net_with(8, [(a, a ^ bit) for a in range(8) for bit in (1, 2, 4)]))
        ico = [(0, k) for k in range(1, 6)] + [(11, k) for k in range(6, 11)]
        ico += [(1 + k, 1 + (k + 1) % 5) for k in range(5)] + [(6 + k, 6 + (k + 1) % 5) for k in range(5)]
        ico += [(1 + k, 6 + k) for k in range(5)] + [(1 + k, 6 + (k + 1) % 5) for k in range(5)]
        self.flat(net_with(12, ico))
        self.assertEqual(len(net_with(12, ico)[1]), 30)
        # Two places joined with all of ten others: flat; three with all of nine: not.
        self.flat(net_with(12, itertools.product(range(2), range(2, 12))))
        self.knotted(net_with(12, itertools.product(range(3), range(3, 12))))


class Sizes(Judging):
    def test_as_many_edges_as_a_flat_net_may_have_and_one_more(self):
        dice = random.Random(44)
        for count in range(3, 13):
            for _ in range(12):
                net = full_flat_net(count, dice)
                self.assertEqual(len(net[1]), 3 * count - 6)
                self.flat(net)
                if count > 4:
                    self.knotted(crowded_by_chance(net, 3 * count - 5, dice))

    def test_twelve_places_and_thirty_edges(self):
        dice = random.Random(45)
        for _ in range(60):
            self.flat(full_flat_net(12, dice))
            self.knotted(chance_net(12, 31, dice))

    def test_forty_edges(self):
        dice = random.Random(46)
        for count in range(10, 13):
            self.knotted(crowded(count, 40))
            self.knotted((count, all_pairs(count)[-40:]))
            for _ in range(30):
                self.knotted(chance_net(count, 40, dice))
                self.knotted(crowded_by_chance(full_flat_net(count, dice), 40, dice))

    def test_nearly_flat(self):
        dice = random.Random(47)
        for count in range(6, 13):
            for _ in range(40):
                net = chance_flat_net(count, dice.randint(count, 3 * count - 6), dice)
                self.flat(net)
                self.judged(crowded_by_chance(net, len(net[1]) + 1, dice))
                self.judged(crowded_by_chance(net, len(net[1]) + 2, dice))

    def test_somewhat_more_places_and_edges(self):
        dice = random.Random(48)
        self.flat(full_flat_net(16, dice))
        self.flat(ring(16))
        self.knotted(full(12))
        self.knotted(crowded_by_chance(full_flat_net(15, dice), 50, dice))


class AllAndMany(Judging):
    def test_all_nets_of_up_to_five_places(self):
        for net in list(small_nets()) + list(nets_of(5)):
            self.assertEqual(self.judged(net), "knot" if net == full(5) else "wheel", net)

    def test_many_nets(self):
        kinds = [self.judged(net) for net in chance_nets(random.Random(49), 1500)]
        self.assertGreater(kinds.count("wheel"), 400)
        self.assertGreater(kinds.count("knot"), 400)

    def test_big_and_patched_nets(self):
        for net in list(big_nets()) + patched_nets():
            self.judged(net)

    def test_a_flat_wheel_is_told_just_if_one_is_there(self):
        dice = random.Random(50)
        nets = [full(5), two_threes(), full(4), less(two_threes(), (1, 4)), stretched(two_threes(), 9, dice)]
        nets += [net for net in chance_nets(dice, 900) if many_wheels(net) <= 300]
        told = []
        for net in nets:
            told.append(self.judged(net))
            there = any(plain_handles(net, wheel) == 0 for wheel in wheels_of(net))
            self.assertEqual(told[-1], "wheel" if there else "knot", net)
        self.assertGreater(told.count("wheel"), 50)
        self.assertGreater(told.count("knot"), 20)


class Whole(Judging):
    def setUp(self):
        self.nets = chance_nets(random.Random(51), 250) + patched_nets()

    def test_flat_just_if_all_blocks_are(self):
        for net in self.nets:
            kinds = [self.judged((net[0], block)) for block in blocks_of(net)]
            self.assertEqual(self.judged(net), "knot" if "knot" in kinds else "wheel", net)

    def test_less_some_edges_it_stays_flat(self):
        dice = random.Random(52)
        for net in [net for net in self.nets if drawn(net)[0] == "wheel"]:
            for _ in range(3):
                self.flat((net[0], tuple(edge for edge in net[1] if dice.random() < 0.7)))

    def test_with_an_edge_drawn_together_it_stays_flat(self):
        for net in [net for net in self.nets if drawn(net)[0] == "wheel"]:
            for edge in net[1][::4]:
                self.flat(plain_together(net, edge))

    def test_whatever_names_places_have(self):
        dice = random.Random(53)
        for net in self.nets:
            self.assertEqual(self.judged(shuffled(net, dice)), self.judged(net), net)
        for net in (less(full(5), (0, 1)), two_threes(), less(two_threes(), (2, 3))):
            kinds = {self.judged(named(net, names)) for names in itertools.permutations(range(net[0]))}
            self.assertEqual(len(kinds), 1, net)

    def test_the_same_again_and_nothing_changed(self):
        for net in self.nets[::3]:
            before = repr(net)
            told = drawn(net)
            self.assertEqual(drawn(net), told)
            self.assertEqual(repr(net), before)


class PlainKnotCheck(unittest.TestCase):
    """The test's own check has to see what is no knot."""

    def fault(self, net, within=None):
        return knot_fault(net[1], within or net)

    def test_knots(self):
        dice = random.Random(54)
        for net in (full(5), two_threes()):
            for count in range(net[0], 13):
                knot = shuffled(stretched(net, count, dice), dice)
                self.assertIsNone(self.fault(knot))
                self.assertIsNone(self.fault(knot, crowded_by_chance(knot, 40, dice)))

    def test_kinds_and_other_edges(self):
        edges = full(5)[1]
        for thing in (list(edges), edges[::-1], edges + edges[-1:], tuple(map(list, edges)), None, (), edges[:-1]):
            self.assertIsNotNone(knot_fault(thing, full(5)))
        self.assertIsNotNone(knot_fault(edges, less(full(5), (0, 1))))

    def test_an_edge_less_or_more(self):
        dice = random.Random(55)
        for net in (full(5), two_threes()):
            knot = stretched(net, 9, dice)
            for edge in knot[1]:
                self.assertIsNotNone(self.fault(less(knot, edge)))
            for pair in all_pairs(9):
                if pair not in knot[1]:
                    self.assertIsNotNone(self.fault(net_with(9, knot[1] + (pair,))))

    def test_a_ring_beside_lies_on_no_way(self):
        for net in (full(5), two_threes()):
            self.assertEqual(self.fault(side_by_side(net, ring(3))), "an edge lies on no way")

    def test_other_shapes_with_as_many_ends(self):
        wrong = "not each end is joined with each by just one way"
        prism = net_with(6, [(0, 1), (1, 2), (0, 2), (3, 4), (4, 5), (3, 5), (0, 3), (1, 4), (2, 5)])
        self.assertEqual(self.fault(prism), wrong)
        doubled = net_with(10, [(k, (k + 1) % 5) for k in range(5)] + [(k, k + 5) for k in range(5)]
                           + [((k + 1) % 5, k + 5) for k in range(5)])
        self.assertEqual(self.fault(doubled), wrong)
        self.assertIsNotNone(self.fault(full(6)))
        self.assertIsNotNone(self.fault(full(4)))
        self.assertIsNotNone(self.fault(ring(5)))

    def test_a_way_back_to_its_own_end(self):
        # Six ends with three edges each; at 4 and at 5 two of the three are of one ring.
        net = net_with(10, [(0, 1), (0, 2), (1, 3), (2, 3), (1, 2), (3, 4), (4, 6), (4, 7), (6, 7), (0, 5), (5, 8),
                            (5, 9), (8, 9)])
        self.assertEqual(self.fault(net), "an edge leads to no other end")


if __name__ == "__main__":
    unittest.main()
