import copy
import itertools
import unittest

from planeyard.things import are_edges, is_net, is_ring, is_wheel
from samples import (
    all_pairs, crowded, edge_places, fan, odd_things, sample_nets, small_nets, wheels_of, with_truth)

SQUARE = (5, ((0, 1), (0, 3), (1, 2), (2, 3)))
FULL_FIVE = (5, all_pairs(5))


class Telling(unittest.TestCase):
    def tells(self, answer, expected, what):
        # True and 1 are equal: only the very truth will do.
        self.assertIs(answer, expected, what)


class IsNet(Telling):
    def yes(self, thing):
        self.tells(is_net(thing), True, thing)

    def no(self, thing):
        self.tells(is_net(thing), False, thing)

    def test_nets(self):
        for net in sample_nets():
            self.yes(net)

    def test_counts(self):
        for count in range(1, 13):
            self.yes((count, ()))
        for count in (0, 13, 14, -1, -12, 10 ** 30, True, False, None, "1", "", (), (1,), [1]):
            self.no((count, ()))

    def test_numbers_of_edges(self):
        for size in (0, 1, 39, 40):
            self.yes(crowded(12, size))
            self.yes(crowded(10, size))
        for size in (41, 42, 66):
            self.no(crowded(12, size))
        self.no(crowded(10, 41))

    def test_edges_turned_about_twice_or_out_of_order(self):
        self.no((3, ((1, 0),)))
        self.no((3, ((0, 1), (2, 1))))
        self.no((3, ((0, 1), (0, 1))))
        self.no((3, ((0, 1), (1, 0))))
        self.no((3, ((0, 2), (0, 1))))
        self.no((3, ((1, 2), (0, 1))))
        self.no((4, ((0, 1), (0, 3), (0, 2))))
        self.no((4, ((0, 1), (1, 2), (1, 2), (2, 3))))

    def test_every_other_order_of_edges(self):
        edges = ((0, 1), (0, 3), (1, 2), (2, 3))
        for order in itertools.permutations(edges):
            self.tells(is_net((4, order)), order == edges, order)

    def test_places_of_edges(self):
        self.no((3, ((1, 1),)))
        self.no((3, ((0, 0),)))
        self.no((3, ((1, 3),)))
        self.no((3, ((3, 4),)))
        self.no((3, ((-1, 1),)))
        self.no((3, ((-2, -1),)))
        self.no((1, ((0, 1),)))
        self.no((12, ((0, 12),)))
        self.yes((12, ((10, 11),)))

    def test_every_pair_near_the_bounds(self):
        for count in (1, 2, 3, 12):
            for one, other in itertools.product(range(-2, 15), repeat=2):
                self.tells(is_net((count, ((one, other),))), 0 <= one < other < count, (count, one, other))

    def test_kinds_and_lengths_of_edges(self):
        for edge in ((0, 1, 2), (0,), (), [0, 1], "01", None, True, 1, (False, 1), (0, True), ("0", "1"),
                     (0, None), ((0,), 1), (0, [1]), ((0, 1),)):
            self.no((3, (edge,)))
            self.no((3, (edge, (1, 2))))
            self.no((3, ((0, 1), edge)))

    def test_kinds_of_the_edges(self):
        for edges in ([], [(0, 1)], [[0, 1]], "", "0-1", None, 0, True, (0, 1), ([],)):
            self.no((3, edges))

    def test_kinds_and_lengths_of_the_net(self):
        for thing in ((), (3,), (3, (), ()), (3, (0, 1)), [3, ()], [3, []], ((3, ()),), (3, 0, 1), ((), 3)):
            self.no(thing)

    def test_odd_things(self):
        for thing in odd_things():
            self.no(thing)

    def test_odd_things_within(self):
        for thing in odd_things():
            self.no((thing, ((0, 1),)) if thing != 12 else thing)
            self.no((3, thing))
            self.no((3, (thing,)))
            self.no((3, ((0, 1), thing)))
            self.no((3, ((thing, 5),)))
            self.no((12, ((11, thing),)))
            self.no((3, (), thing))


class AreEdges(Telling):
    def yes(self, thing, net):
        self.tells(are_edges(thing, net), True, (thing, net))

    def no(self, thing, net):
        self.tells(are_edges(thing, net), False, (thing, net))

    def test_none_some_and_all(self):
        for net in sample_nets():
            edges = net[1]
            for some in ((), edges, edges[1:], edges[:-1], edges[::2], edges[1::3]):
                self.yes(some, net)

    def test_every_row_of_pairs(self):
        pairs = tuple(itertools.product(range(-1, 4), repeat=2))
        for net in ((3, ()), (3, ((0, 2),)), (3, ((0, 1), (1, 2))), (3, all_pairs(3))):
            subsets = {some for size in range(4) for some in itertools.combinations(net[1], size)}
            for size in range(3):
                for row in itertools.product(pairs, repeat=size):
                    self.tells(are_edges(row, net), row in subsets, (row, net))

    def test_every_order_of_some_edges(self):
        for some in itertools.combinations(SQUARE[1], 3):
            for order in itertools.permutations(some):
                self.tells(are_edges(order, SQUARE), order == some, order)

    def test_spoilt(self):
        self.no(((0, 3), (0, 1)), SQUARE)
        self.no(((0, 1), (0, 1)), SQUARE)
        self.no(((0, 1), (1, 2), (1, 2)), SQUARE)
        self.no(((1, 0),), SQUARE)
        self.no(((0, 1), (3, 2)), SQUARE)
        self.no(((0, 2),), SQUARE)
        self.no(((0, 1), (0, 2), (0, 3)), SQUARE)
        self.no(((0, 1), (4, 5)), SQUARE)

    def test_kinds(self):
        self.no([], SQUARE)
        self.no([(0, 1)], SQUARE)
        self.no(([0, 1],), SQUARE)
        self.no(((False, 1),), SQUARE)
        self.no(((0, True),), SQUARE)
        self.no(((0, 1), (True, 2)), SQUARE)
        self.no((0, 1), SQUARE)
        self.no(((0,),), SQUARE)
        self.no(((0, 1, 2),), SQUARE)
        self.no(((0, 1), None), SQUARE)
        self.no(((0, 1), "1-2"), SQUARE)

    def test_odd_things(self):
        for thing in odd_things():
            for net in (SQUARE, (1, ()), FULL_FIVE):
                self.no(thing, net)
                self.no((thing,), net)
                self.no(((0, 1), thing), net)
                self.no(((thing, 6),), net)

    def test_no_edges_of_a_net_without_any(self):
        self.yes((), (1, ()))
        self.yes((), (12, ()))
        self.no(((0, 1),), (12, ()))


class IsWheel(Telling):
    def yes(self, thing, net):
        self.tells(is_wheel(thing, net), True, (thing, net))

    def no(self, thing, net):
        self.tells(is_wheel(thing, net), False, (thing, net))

    def test_every_wheel_of_small_nets(self):
        for net in list(small_nets()) + [SQUARE, FULL_FIVE, fan(6)]:
            for wheel in wheels_of(net):
                self.yes(wheel, net)

    def test_every_row_of_rows(self):
        parts = [row for size in range(3) for row in itertools.product(range(3), repeat=size)]
        for net in [net for net in small_nets() if net[0] == 3]:
            wheels = set(wheels_of(net))
            for row in itertools.product(parts, repeat=3):
                self.tells(is_wheel(row, net), row in wheels, (row, net))

    def test_every_order_of_a_part(self):
        wheel = ((1, 2, 3, 4), (0, 2, 3, 4), (0, 1, 3, 4), (0, 1, 2, 4), (0, 1, 2, 3))
        for place in range(5):
            for order in itertools.permutations(wheel[place]):
                thing = wheel[:place] + (order,) + wheel[place + 1:]
                self.tells(is_wheel(thing, FULL_FIVE), order[0] == min(order), thing)

    def test_places_without_edges(self):
        self.yes(((),), (1, ()))
        self.yes(((),) * 12, (12, ()))
        self.yes(((1, 3), (0, 2), (1, 3), (0, 2), ()), SQUARE)
        self.no(((1, 3), (0, 2), (1, 3), (0, 2), (4,)), SQUARE)
        self.no(((1, 3), (0, 2), (1, 3), (0, 2), None), SQUARE)
        self.no(((1, 3), (0, 2), (1, 3), (0, 2), []), SQUARE)
        self.no((), (1, ()))

    def test_nets_of_many_places(self):
        for net in sample_nets():
            rows = [tuple(sorted(near)) for near in edge_places(net)]
            self.yes(tuple(rows), net)
            self.yes(tuple([row[:1] + row[:0:-1] for row in rows]), net)
            if any(len(row) > 1 for row in rows):
                self.no(tuple([row[::-1] for row in rows]), net)

    def test_a_spoilt_part(self):
        wheel = ((1, 2, 3, 4), (0, 2, 3, 4), (0, 1, 3, 4), (0, 1, 2, 4), (0, 1, 2, 3))
        for place, part in enumerate(wheel):
            spoilt = [part[1:] + part[:1], part[:-1], part[1:], part[:2] + part[3:], part + part[:1],
                      part + part[-1:], part[:1] + part[:-1], (), part[:-1] + (place,), part + (place,),
                      part[:-1] + (5,), part + (5,), part + (-1,), list(part), None, part[0], "1234",
                      (part,), part + (None,), part[:-1] + (str(part[-1]),), part[:-1] + ((part[-1],),)]
            spoilt += [with_truth(part, k) for k in range(4) if part[k] in (0, 1)]
            for other in spoilt:
                self.no(wheel[:place] + (other,) + wheel[place + 1:], FULL_FIVE)

    def test_kinds_and_lengths(self):
        wheel = ((1, 3), (0, 2), (1, 3), (0, 2), ())
        self.yes(wheel, SQUARE)
        self.no(list(wheel), SQUARE)
        self.no([list(part) for part in wheel], SQUARE)
        self.no(wheel[:-1], SQUARE)
        self.no(wheel[1:], SQUARE)
        self.no(wheel + ((),), SQUARE)
        self.no(wheel + ((0,),), SQUARE)
        self.no((wheel,), SQUARE)
        self.no(sum(wheel, ()), SQUARE)

    def test_odd_things(self):
        for thing in odd_things():
            self.no(thing, SQUARE)
            self.no(thing, FULL_FIVE)
            self.no(thing, (12, ()))
            self.no(((1, 3), thing, (1, 3), (0, 2), ()), SQUARE)
            self.no(((1, thing), (0, 2), (1, 3), (0, 2), ()), SQUARE)
            self.no(((thing, 3), (0, 2), (1, 3), (0, 2), ()) if thing != 1 else thing, SQUARE)


class IsRing(Telling):
    def yes(self, thing, net):
        self.tells(is_ring(thing, net), True, (thing, net))

    def no(self, thing, net):
        self.tells(is_ring(thing, net), False, (thing, net))

    def all_turns(self, ring):
        for row in (ring, ring[::-1]):
            for k in range(len(row)):
                yield row[k:] + row[:k]

    def test_from_any_place_on_and_either_way_round(self):
        long = (12, tuple(sorted([(k, k + 1) for k in range(11)] + [(0, 11)])))
        for ring, net in (((0, 1, 2), (3, all_pairs(3))), ((0, 1, 2, 3), SQUARE), ((0, 2, 4, 1, 3), FULL_FIVE),
                          (tuple(range(12)), long), ((0, 3, 4, 5), fan(7))):
            for turn in self.all_turns(ring):
                self.yes(turn, net)
                self.no(turn[:-1] + turn[:1], net)
                self.no(turn + turn[:1], net)

    def test_every_row_of_places(self):
        for net in small_nets():
            near = edge_places(net)
            for size in range(5):
                for row in itertools.product(range(-1, net[0] + 1), repeat=size):
                    ring = (size >= 3 and set(row) <= set(range(net[0])) and len(set(row)) == size
                            and all(b in near[a] for a, b in zip(row, row[1:] + row[:1])))
                    self.tells(is_ring(row, net), ring, (row, net))

    def test_too_few_places(self):
        self.no((), FULL_FIVE)
        self.no((0,), FULL_FIVE)
        self.no((0, 1), FULL_FIVE)
        self.no((1, 0), FULL_FIVE)
        self.yes((0, 1, 2), FULL_FIVE)

    def test_a_place_twice(self):
        self.no((0, 1, 0), FULL_FIVE)
        self.no((0, 1, 0, 1), FULL_FIVE)
        self.no((0, 1, 2, 0), FULL_FIVE)
        self.no((0, 1, 2, 0, 3, 4), FULL_FIVE)
        self.no((0, 1, 2) * 2, FULL_FIVE)

    def test_no_neighbours(self):
        self.no((0, 2, 1, 3), SQUARE)
        self.no((0, 1, 2), SQUARE)
        row = (4, ((0, 1), (1, 2), (2, 3)))
        self.no((0, 1, 2, 3), row)
        self.no((1, 2, 3, 0), row)
        self.no((0, 1, 2, 4), SQUARE)

    def test_places_outside_of_the_net(self):
        self.no((0, 1, 5), FULL_FIVE)
        self.no((-1, 0, 1), FULL_FIVE)
        self.no((0, 1, -2), FULL_FIVE)
        self.no((5, 6, 7), FULL_FIVE)

    def test_kinds(self):
        self.no([0, 1, 2], FULL_FIVE)
        self.no((False, 1, 2), FULL_FIVE)
        self.no((0, True, 2), FULL_FIVE)
        self.no((2, 3, True), FULL_FIVE)
        self.no((0, 1, None), FULL_FIVE)
        self.no((0, 1, "2"), FULL_FIVE)
        self.no((0, 1, (2,)), FULL_FIVE)
        self.no((0, 1, [2]), FULL_FIVE)
        self.no(((0, 1), (1, 2), (0, 2)), FULL_FIVE)
        self.no("012", FULL_FIVE)

    def test_odd_things(self):
        for thing in odd_things():
            self.no(thing, FULL_FIVE)
            self.no((0, 2, thing) if thing != 1 or thing is True else thing, FULL_FIVE)
            self.no((thing, 2, 3) if thing not in (0, 1) or isinstance(thing, bool) else thing, FULL_FIVE)


class NothingChanged(Telling):
    def test_what_is_handed_in_is_not_changed_and_the_same_is_told_again(self):
        nets = (SQUARE, [5, [[0, 1], [0, 3]]], (5, [(0, 3), (0, 1)]))
        things = odd_things() + [list(SQUARE), [(0, 3), (0, 1)], [2, 1, 0], [[3, 1], [2, 0], [3, 1], [2, 0], []]]
        for thing in things + list(nets) + [net[1] for net in nets]:
            before = repr(copy.deepcopy(thing))
            first = [is_net(thing)] + [told(thing, SQUARE) for told in (are_edges, is_wheel, is_ring)]
            again = [is_net(thing)] + [told(thing, SQUARE) for told in (are_edges, is_wheel, is_ring)]
            self.assertEqual(first, again)
            self.assertEqual(repr(thing), before)


if __name__ == "__main__":
    unittest.main()
