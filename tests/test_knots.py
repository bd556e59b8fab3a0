import itertools
import random
import unittest

from checks import knot_fault
from planeyard.drawing import drawn
from planeyard.knots import is_knot
from samples import (
    all_pairs, chance_flat_net, chance_knot_net, chance_net, chance_nets, crowded_by_chance, full, hung_together,
    less, named, net_with, odd_things, place_put_on, ring, row, sample_nets, shuffled, side_by_side, stretched,
    two_threes, with_truth)

BOTH = (full(5), two_threes())
# Two rings of three places joined by three edges: six ends with three edges each, but no two threes.
PRISM = net_with(6, [(0, 1), (1, 2), (0, 2), (3, 4), (4, 5), (3, 5), (0, 3), (1, 4), (2, 5)])
# Five ends with four edges each, each joined by two ways with two others.
DOUBLED_FIVE = net_with(10, [(k, (k + 1) % 5) for k in range(5)] + [(k, k + 5) for k in range(5)]
                        + [((k + 1) % 5, k + 5) for k in range(5)])
# Six ends with three edges each: as two threes, but 0 is joined with 3 and 2 with 5 by two ways, 0 with 5 by none.
DOUBLED_SIX = net_with(8, [(0, 3), (0, 6), (3, 6), (0, 4), (1, 3), (1, 4), (1, 5), (2, 4), (2, 5), (2, 7), (5, 7)])


class Asked(unittest.TestCase):
    def yes(self, thing, net):
        self.assertIsNone(knot_fault(thing, net), (thing, net))
        self.assertIs(is_knot(thing, net), True, (thing, net))

    def no(self, thing, net):
        self.assertIs(is_knot(thing, net), False, (thing, net))

    def none_within(self, net):
        """The net's edges by themselves, and within a net that has all pairs as edges, are no knot."""
        self.assertIsNotNone(knot_fault(net[1], net), net)
        self.no(net[1], net)
        self.no(net[1], full(net[0]))

    def same(self, thing, net):
        self.assertIs(is_knot(thing, net), knot_fault(thing, net) is None, (thing, net))


class Knots(Asked):
    def test_the_two_shapes(self):
        self.yes(((0, 1), (0, 2), (0, 3), (0, 4), (1, 2), (1, 3), (1, 4), (2, 3), (2, 4), (3, 4)), full(5))
        self.yes(((0, 3), (0, 4), (0, 5), (1, 3), (1, 4), (1, 5), (2, 3), (2, 4), (2, 5)), two_threes())

    def test_places_put_on_each_edge(self):
        for net in BOTH:
            for edge in net[1]:
                longer = place_put_on(net, edge)
                self.yes(longer[1], longer)

    def test_places_put_on_ways(self):
        dice = random.Random(61)
        for net in BOTH:
            for count in range(net[0], 13):
                for _ in range(12):
                    longer = shuffled(stretched(net, count, dice), dice)
                    self.yes(longer[1], longer)

    def test_one_way_over_all_other_places(self):
        for net in BOTH:
            longer = net
            while longer[0] < 12:
                longer = place_put_on(longer, longer[1][-1])
            self.yes(longer[1], longer)

    def test_inside_a_larger_net(self):
        dice = random.Random(62)
        for net in BOTH:
            for _ in range(80):
                knot = stretched(net, dice.randint(net[0], 12), dice)
                larger = shuffled(crowded_by_chance((12, knot[1]), 40, dice), dice)
                for each in (knot, (12, knot[1])):
                    self.yes(each[1], each)
                self.yes(knot[1], crowded_by_chance((12, knot[1]), dice.randint(20, 40), dice))
                kind, told = drawn(larger)
                self.assertEqual(kind, "knot")
                self.yes(told, larger)

    def test_a_knot_beside_other_parts(self):
        for net in BOTH:
            for more in ((1, ()), row(2), ring(3), full(4), (5, ())):
                self.yes(net[1], side_by_side(net, more))
                moved = side_by_side((more[0], ()), net)
                self.yes(moved[1], side_by_side(more, net))

    def test_whatever_names_places_have(self):
        for names in itertools.permutations(range(6)):
            knot = named(two_threes(), names)
            self.yes(knot[1], knot)
            self.yes(knot[1], full(6))
        for names in itertools.permutations(range(6)):
            knot = named(place_put_on(full(5), (1, 3)), names)
            self.yes(knot[1], full(6))

    def test_every_five_places_and_every_two_threes(self):
        for five in itertools.combinations(range(9), 5):
            self.yes(tuple(itertools.combinations(five, 2)), full(9))
        for one in itertools.combinations(range(8), 3):
            for other in itertools.combinations(sorted(set(range(8)) - set(one)), 3):
                self.yes(net_with(8, itertools.product(one, other))[1], full(8))

    def test_somewhat_more_places_and_edges(self):
        dice = random.Random(63)
        for net in BOTH:
            knot = stretched(net, 16, dice)
            self.yes(knot[1], knot)
            self.yes(knot[1], crowded_by_chance(knot, 60, dice))


class OtherShapes(Asked):
    def test_no_edges_and_few(self):
        for net in sample_nets()[::3]:
            self.no((), net)
            self.no(net[1][:1], net)
            self.no(net[1][:8], net)

    def test_an_edge_less_one_more_or_another_in_its_stead(self):
        dice = random.Random(64)
        for net in BOTH:
            for knot in (net, stretched(net, 8, dice), shuffled(stretched(net, 10, dice), dice)):
                rest = [pair for pair in all_pairs(knot[0]) if pair not in knot[1]]
                for edge in knot[1]:
                    self.none_within(less(knot, edge))
                for pair in rest:
                    self.none_within(net_with(knot[0], knot[1] + (pair,)))
                for edge, pair in itertools.product(knot[1], rest):
                    changed = net_with(knot[0], less(knot, edge)[1] + (pair,))
                    self.same(changed[1], full(knot[0]))

    def test_an_end_more(self):
        for net in BOTH:
            for size in range(1, net[0] + 1):
                more = net_with(net[0] + 1, net[1] + tuple((place, net[0]) for place in range(size)))
                if size != 2:
                    self.none_within(more)
        self.none_within(net_with(8, itertools.product(range(4), range(4, 8))))
        self.none_within(full(6))

    def test_a_ring_beside_it(self):
        dice = random.Random(65)
        for net in BOTH:
            for size in range(3, 13 - net[0]):
                self.none_within(side_by_side(net, ring(size)))
                self.none_within(shuffled(side_by_side(ring(size), net), dice))
            self.none_within(side_by_side(net, ring(3), ring(3)))
            self.none_within(side_by_side(stretched(net, 8, dice), ring(3)))

    def test_a_ring_hung_on(self):
        for net in BOTH:
            self.none_within(hung_together(net, ring(3)))
            self.none_within(hung_together(place_put_on(net, (0, 4)), ring(3)))

    def test_a_way_that_hangs_loose(self):
        for net in BOTH:
            for size in (2, 3, 4):
                self.none_within(hung_together(net, row(size)))
                self.none_within(hung_together(place_put_on(net, (0, 4)), row(size)))
                self.none_within(side_by_side(net, row(size)))

    def test_two_knots_beside_and_hung_together(self):
        for one, other in itertools.product(BOTH, repeat=2):
            self.none_within(side_by_side(one, other))
            self.none_within(hung_together(one, other))

    def test_two_ways_between_the_same_two_ends(self):
        for net in (DOUBLED_FIVE, DOUBLED_SIX):
            self.none_within(net)
            self.assertEqual(knot_fault(net[1], net), "not each end is joined with each by just one way")
        dice = random.Random(66)
        for _ in range(20):
            self.none_within(shuffled(stretched(DOUBLED_FIVE, 12, dice), dice))
            self.none_within(shuffled(stretched(DOUBLED_SIX, 12, dice), dice))

    def test_three_ways_between_the_same_two_ends(self):
        three_times = net_with(4, [(0, 1), (0, 2), (1, 2), (0, 3), (1, 3)])
        self.none_within(side_by_side(three_times, three_times, three_times))

    def test_a_way_back_to_its_own_end(self):
        self.none_within(net_with(10, [(0, 1), (0, 2), (1, 3), (2, 3), (1, 2), (3, 4), (4, 6), (4, 7), (6, 7), (0, 5),
                                       (5, 8), (5, 9), (8, 9)]))
        # Five ends with four edges each: two edges of 4 are of one ring, and two of its others are joined twice.
        self.none_within(net_with(8, [(0, 1), (0, 2), (0, 3), (1, 2), (1, 3), (2, 3), (0, 4), (1, 4), (4, 5), (4, 6),
                                      (5, 6), (2, 7), (3, 7)]))

    def test_six_ends_that_are_no_two_threes(self):
        self.none_within(PRISM)
        dice = random.Random(67)
        for count in range(6, 13):
            self.none_within(shuffled(stretched(PRISM, count, dice), dice))
        for names in itertools.permutations(range(6)):
            self.no(named(PRISM, names)[1], full(6))

    def test_every_six_ends_of_three_edges(self):
        seen = []
        for edges in itertools.combinations(all_pairs(6), 9):
            if all(sum(place in edge for edge in edges) == 3 for place in range(6)):
                self.same(edges, full(6))
                seen.append(is_knot(edges, full(6)))
        # There are 70 such nets: ten ways to choose two threes, and sixty of the other shape.
        self.assertEqual((seen.count(True), seen.count(False)), (10, 60))

    def test_ends_of_other_numbers_of_edges(self):
        for net in (full(4), full(6), ring(5), ring(12), net_with(6, [pair for pair in all_pairs(6) if sum(pair) != 5]),
                    net_with(8, [(a, a ^ bit) for a in range(8) for bit in (1, 2, 4)]),
                    side_by_side(full(4), full(4)), side_by_side(full(4), full(4), full(4))):
            self.none_within(net)


class OtherThings(Asked):
    def test_not_a_rising_tuple_of_edges(self):
        dice = random.Random(68)
        for net in BOTH + (stretched(full(5), 9, dice), stretched(two_threes(), 11, dice)):
            edges = net[1]
            self.no(list(edges), net)
            self.no(tuple(map(list, edges)), net)
            self.no(edges[::-1], net)
            self.no(edges[1:] + edges[:1], net)
            self.no(edges + edges[-1:], net)
            self.no(edges[:1] + edges, net)
            self.no(edges + edges, net)
            self.no(tuple(edge[::-1] for edge in edges), net)
            self.no((edges,), net)
            self.no(net, net)
            for k, edge in enumerate(edges):
                ahead, behind = edges[:k], edges[k + 1:]
                self.no(ahead + (edge[::-1],) + behind, net)
                self.no(ahead + (edge, edge) + behind, net)
                self.no(tuple(sorted(ahead + (edge[::-1],) + behind)), net)
                if ahead:
                    self.no(ahead[:-1] + (edge, ahead[-1]) + behind, net)

    def test_of_the_places_but_not_the_edges(self):
        for net in BOTH:
            for edge in net[1]:
                self.no(net[1], less(net, edge))
            self.no(net[1], (net[0], ()))
            self.no(net[1], (12, ()))
        self.no(full(5)[1], two_threes())
        self.no(two_threes()[1], (6, full(5)[1]))

    def test_places_that_are_not_there(self):
        moved = tuple((one + 1, other + 1) for one, other in full(5)[1])
        self.no(moved, full(5))
        self.no(tuple((one - 1, other - 1) for one, other in full(5)[1]), full(5))
        self.yes(moved, full(6))

    def test_other_kinds_within(self):
        for net in BOTH:
            edges = net[1]
            for k, edge in enumerate(edges):
                for other in (None, "", "0-1", True, 0, (), (edge[0],), edge + (0,), list(edge), (edge,), [edge],
                              (None, edge[1]), (edge[0], None), (str(edge[0]), edge[1]), (edge[0], str(edge[1])),
                              ([edge[0]], edge[1]), (edge[0], (edge[1],))):
                    self.no(edges[:k] + (other,) + edges[k + 1:], net)
                    self.no(edges[:k] + (other,) + edges[k:], net)
                for half in (0, 1):
                    if edge[half] in (0, 1):
                        self.no(edges[:k] + (with_truth(edge, half),) + edges[k + 1:], net)

    def test_things_of_other_kinds_altogether(self):
        for net in BOTH + ((1, ()), ring(3), full(6)):
            for thing in odd_things():
                self.no(thing, net)
                self.no((thing,), net)
                self.no(net[1] + (thing,), net)
                self.no([thing], net)

    def test_the_same_again_and_nothing_changed(self):
        for net in BOTH:
            for thing in (net[1], list(net[1]), [list(edge) for edge in net[1]]):
                before = repr((thing, net))
                self.assertIs(is_knot(thing, net), is_knot(thing, net))
                self.assertEqual(repr((thing, net)), before)


class AgainstThePlainCheck(Asked):
    def test_some_edges_of_many_nets(self):
        dice = random.Random(69)
        for net in chance_nets(dice, 600):
            self.same(net[1], net)
            for _ in range(4):
                self.same(tuple(edge for edge in net[1] if dice.random() < 0.7), net)

    def test_knots_with_some_edges_changed(self):
        dice = random.Random(70)
        found = []
        for _ in range(1500):
            seed = dice.choice(BOTH + (PRISM, DOUBLED_SIX))
            net = stretched(seed, dice.randint(seed[0], 10), dice)
            kept = dice.sample(net[1], len(net[1]) - dice.randint(0, 2))
            changed = crowded_by_chance((net[0], tuple(kept)), len(kept) + dice.randint(0, 2), dice)
            changed = shuffled(net_with(changed[0], changed[1]), dice)
            self.same(changed[1], crowded_by_chance(changed, 40, dice))
            found.append(is_knot(changed[1], changed))
        self.assertGreater(found.count(True), 50)
        self.assertGreater(found.count(False), 500)

    def test_some_edges_are_a_knot_just_if_one_is_told(self):
        """All choices of nine edges or more are gone through: a net is told a knot of just if one is among them."""
        dice = random.Random(71)
        nets = [chance_net(6, dice.randint(9, 12), dice) for _ in range(12)]
        nets += [chance_knot_net(7, 11, dice) for _ in range(5)] + [chance_flat_net(8, 12, dice) for _ in range(5)]
        nets += [full(5), two_threes(), less(full(6), (0, 1))]
        kinds = set()
        for net in nets:
            choices = [some for size in range(9, len(net[1]) + 1) for some in itertools.combinations(net[1], size)]
            kind = "knot" if any([is_knot(some, net) for some in choices]) else "wheel"
            self.assertEqual(drawn(net)[0], kind, net)
            kinds.add(kind)
        self.assertEqual(kinds, {"knot", "wheel"})


if __name__ == "__main__":
    unittest.main()
