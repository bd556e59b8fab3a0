import itertools
import random
import unittest

from checks import coloured_in_order, plain_coloured, told_kinds, well_coloured
from planeyard.colours import coloured
from samples import (
    big_nets, chance_flat_net, chance_flat_wheel, chance_net, chance_nets, chance_tree, crowded_by_chance, fan, full,
    full_flat_net, hung_together, net_with, nets_of, patched_nets, ring, row, shuffled, side_by_side, small_nets,
    two_threes)


def can_be_coloured(net, many):
    """Whether there are so many groups of places, no two neighbours in one, that have all places."""
    apart = [group for size in range(1, net[0] + 1) for group in itertools.combinations(range(net[0]), size)
             if not any(pair in net[1] for pair in itertools.combinations(group, 2))]
    by_first = [[sum(1 << place for place in group) for group in apart if group[0] == place]
                for place in range(net[0])]
    reached = {0}
    for _ in range(many):
        # Each group has the least place that is still without.
        reached |= {done | group for done in reached if done + 1 < 1 << net[0]
                    for group in by_first[((done + 1) & ~done).bit_length() - 1]}
    return (1 << net[0]) - 1 in reached


class Colours(unittest.TestCase):
    def looked_through(self, net, many):
        before = repr(net)
        told = coloured(net, many)
        self.assertEqual(coloured(net, many), told)
        self.assertEqual(repr(net), before)
        self.assertTrue(told_kinds(told))
        if told is not None:
            self.assertTrue(type(told) is tuple and len(told) == net[0])
            self.assertTrue(all(0 <= colour < many for colour in told), (net, many))
            self.assertTrue(well_coloured(net, told), (net, many))
        return told

    def test_no_edges(self):
        for count in range(1, 13):
            for many in range(1, 13):
                self.assertEqual(self.looked_through((count, ()), many), (0,) * count)

    def test_plain_nets(self):
        for net, many, told in (
            ((2, ((0, 1),)), 1, None), ((2, ((0, 1),)), 2, (0, 1)), ((2, ((0, 1),)), 12, (0, 1)),
            (row(5), 2, (0, 1, 0, 1, 0)), (ring(4), 2, (0, 1, 0, 1)), (ring(5), 2, None), (ring(5), 3, (0, 1, 0, 1, 2)),
            ((4, ((0, 3), (1, 3), (2, 3))), 2, (0, 0, 0, 1)), (two_threes(), 2, (0, 0, 0, 1, 1, 1)),
            # With two colours 0 and 1 have to be unlike, with three they need not.
            (net_with(4, [(0, 2), (2, 3), (1, 3)]), 2, (0, 1, 1, 0)),
            (net_with(4, [(0, 2), (2, 3), (1, 3)]), 3, (0, 0, 1, 2)),
        ):
            self.assertEqual(self.looked_through(net, many), told, (net, many))

    def test_one_colour(self):
        for net in list(small_nets()) + list(big_nets()):
            self.assertEqual(self.looked_through(net, 1), None if net[1] else (0,) * net[0])

    def test_each_many_at_nets_of_up_to_five_places(self):
        for net in list(small_nets()) + list(nets_of(5))[::3]:
            for many in range(1, 13):
                self.assertEqual(self.looked_through(net, many), plain_coloured(net, many), (net, many))

    def test_each_many_at_nets_of_six_and_seven_places(self):
        dice = random.Random(121)
        for count in (6, 7):
            for _ in range(25):
                net = chance_net(count, dice.randint(0, 15 if count == 6 else 14), dice)
                for many in range(1, 13):
                    self.assertEqual(self.looked_through(net, many), plain_coloured(net, many), (net, many))

    def test_as_many_colours_as_places_that_are_all_neighbours_and_one_less(self):
        for count in range(2, 10):
            for ahead, behind in ((0, 0), (12 - count, 0), (0, 12 - count), (1, 11 - count)):
                net = side_by_side(*[(1, ())] * ahead, full(count), *[(1, ())] * behind)
                told = (0,) * ahead + tuple(range(count)) + (0,) * behind
                for many in range(1, count):
                    self.assertIsNone(self.looked_through(net, many))
                for many in range(count, 13):
                    self.assertEqual(self.looked_through(net, many), told)

    def test_places_hung_on_places_that_are_all_neighbours(self):
        # Places of no weight come first, in all the orders of which none helps.
        dice = random.Random(122)
        for count in range(3, 10):
            for _ in range(4):
                near = [(place, dice.randrange(12 - count, 12)) for place in range(12 - count)]
                net = net_with(12, near + list(itertools.combinations(range(12 - count, 12), 2)))
                self.assertIsNone(self.looked_through(net, count - 1))
                self.assertEqual(self.looked_through(net, count), coloured_in_order(net, count))

    def test_five_colours_at_flat_nets(self):
        dice = random.Random(123)
        nets = [full_flat_net(count, dice) for count in range(3, 13) for _ in range(15)]
        nets += [chance_flat_net(dice.randint(3, 12), dice.randint(0, 30), dice) for _ in range(150)]
        nets += [chance_flat_wheel(count, 3 * count, dice)[0] for count in range(1, 13) for _ in range(5)]
        nets += [chance_tree(count, dice) for count in range(1, 13)] + [fan(count) for count in range(3, 13)]
        for net in nets:
            self.assertIsNotNone(self.looked_through(net, 5), net)

    def test_the_least_at_many_nets(self):
        dice = random.Random(124)
        for net in chance_nets(dice, 250) + patched_nets() + list(big_nets()):
            for many in range(1, 13):
                told = self.looked_through(net, many)
                # Where there is none the plain check may take too long, and another one is asked below.
                if told is not None:
                    self.assertEqual(told, coloured_in_order(net, many), (net, many))

    def test_none_where_there_is_none(self):
        dice = random.Random(125)
        nets = [chance_net(dice.randint(6, 10), dice.randint(15, 40), dice) for _ in range(40)]
        nets += [chance_net(12, 40, dice), crowded_by_chance(full_flat_net(12, dice), 40, dice), two_threes(),
                 hung_together(full(5), full(5)), side_by_side(full(4), full(6)), shuffled(fan(10), dice),
                 net_with(10, ring(9)[1] + tuple((place, 9) for place in range(9)))]
        for net in nets:
            for many in range(1, 8):
                self.assertEqual(self.looked_through(net, many) is not None, can_be_coloured(net, many), (net, many))

    def test_forty_edges(self):
        dice = random.Random(126)
        for count in (10, 11, 12):
            for _ in range(20):
                net = chance_net(count, 40, dice)
                told = [self.looked_through(net, many) for many in range(1, 13)]
                least = next(many for many, each in enumerate(told) if each)
                self.assertTrue(all(told[least:]) and not any(told[:least]))

    def test_more_colours_never_make_it_greater(self):
        for net in chance_nets(random.Random(127), 100):
            told = [each for each in [coloured(net, many) for many in range(1, 13)] if each]
            self.assertEqual(told, sorted(told, reverse=True), net)

    def test_somewhat_more_places_edges_and_colours(self):
        dice = random.Random(128)
        for net in (ring(15), full(12), full(13), chance_net(16, 50, dice), side_by_side(*[(1, ())] * 8, full(6))):
            for many in range(1, 15):
                self.looked_through(net, many)
        self.assertEqual(coloured(full(13), 13), tuple(range(13)))
        self.assertIsNone(coloured(full(13), 12))


if __name__ == "__main__":
    unittest.main()
