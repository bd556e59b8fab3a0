"""What the document promises over the whole program, asked through its own functions together."""

import importlib
import inspect
import itertools
import random
import unittest

from checks import is_plain_wheel, knot_fault, plain_handles, told_kinds, well_coloured
from planeyard.changing import beside, drawn_together, renamed, with_edge, without
from planeyard.colours import coloured
from planeyard.drawing import drawn
from planeyard.errors import YardError
from planeyard.knots import is_knot
from planeyard.parts import blocks_of, bridges_of, joints_of, neighbours, parts_of
from planeyard.reading import read
from planeyard.sides import outer_face, parted, sides_of
from planeyard.things import are_edges, is_net, is_ring, is_wheel
from planeyard.wheels import faces_of, handles
from planeyard.writing import written
from samples import (
    all_pairs, chance_flat_net, chance_knot_net, chance_net, chance_nets, chance_ring, crowded_by_chance, dart_pairs,
    full, hung_together, net_with, nets_of, patched_nets, ring, sample_nets, small_nets, stretched, two_threes)

INTERFACE = {
    "things": {"is_net": ["thing"], "are_edges": ["thing", "net"], "is_wheel": ["thing", "net"],
               "is_ring": ["thing", "net"]},
    "writing": {"written": ["net"]},
    "reading": {"read": ["text"]},
    "parts": {"neighbours": ["net", "place"], "parts_of": ["net"], "blocks_of": ["net"], "bridges_of": ["net"],
              "joints_of": ["net"]},
    "wheels": {"faces_of": ["net", "wheel"], "handles": ["net", "wheel"]},
    "drawing": {"drawn": ["net"]},
    "knots": {"is_knot": ["thing", "net"]},
    "sides": {"sides_of": ["net", "wheel"], "parted": ["net", "wheel", "ring"], "outer_face": ["net", "wheel"]},
    "changing": {"without": ["net", "wheel", "edge"], "with_edge": ["net", "wheel", "dart", "other"],
                 "drawn_together": ["net", "edge"], "renamed": ["net", "names"], "beside": ["one", "other"]},
    "colours": {"coloured": ["net", "many"]},
}


def nets_of_all_sizes(seed, many):
    """Nets of 1 to 12 places, flat and not."""
    dice = random.Random(seed)
    few = [chance_net(count, dice.randint(0, 10), dice) for count in range(1, 6) for _ in range(4)]
    return few + chance_nets(dice, many) + patched_nets()


def is_flat(net):
    return drawn(net)[0] == "wheel"


def flat_ones(nets):
    return [(net, drawn(net)[1]) for net in nets if is_flat(net)]


def by_itself(block):
    """The block as a net that has no other places than its own."""
    places = sorted({place for edge in block for place in edge})
    return (len(places), tuple((places.index(one), places.index(other)) for one, other in block))


def some_rings(net, dice):
    """Some rings of the net: short ones, and some by chance."""
    short = [way for way in itertools.combinations(range(net[0]), 3) if is_ring(way, net)]
    return short[:4] + [way for way in [chance_ring(net, dice) for _ in range(4)] if way]


class Interface(unittest.TestCase):
    def test_names_and_arguments(self):
        for module, functions in INTERFACE.items():
            found = importlib.import_module(f"planeyard.{module}")
            for name, arguments in functions.items():
                function = getattr(found, name)
                self.assertEqual(list(inspect.signature(function).parameters), arguments, name)
                self.assertEqual(function.__module__, f"planeyard.{module}")


class WheelOrKnot(unittest.TestCase):
    def test_either_is_told_of_every_net(self):
        kinds = {"wheel": 0, "knot": 0}
        for net in nets_of_all_sizes(131, 800) + sample_nets():
            kind, thing = drawn(net)
            kinds[kind] += 1
            if kind == "wheel":
                self.assertIs(is_wheel(thing, net), True, net)
                self.assertEqual(handles(net, thing), 0, net)
                self.assertTrue(is_plain_wheel(thing, net) and plain_handles(net, thing) == 0, net)
                self.assertIs(is_knot(net[1], net), False, net)
            else:
                self.assertIs(is_knot(thing, net), True, net)
                self.assertIsNone(knot_fault(thing, net), net)
        self.assertGreater(min(kinds.values()), 200)

    def test_no_edges_of_a_flat_net_are_a_knot(self):
        dice = random.Random(132)
        for net, _ in flat_ones(nets_of_all_sizes(133, 150)):
            for _ in range(20):
                some = tuple(edge for edge in net[1] if dice.random() < 0.8)
                self.assertIs(is_knot(some, net), False, net)
            # What would be a knot with an edge more is none without it.
            more = crowded_by_chance(net, len(net[1]) + 1, dice)
            kind, thing = drawn(more)
            if kind == "knot":
                self.assertIs(is_knot(thing, net), False, net)
                self.assertIs(is_knot(tuple(edge for edge in thing if edge in net[1]), net), False, net)

    def test_all_edges_tried_of_flat_nets_with_few(self):
        dice = random.Random(134)
        for net in [chance_flat_net(7, 12, dice) for _ in range(8)]:
            self.assertTrue(is_flat(net))
            for size in range(len(net[1]) + 1):
                for some in itertools.combinations(net[1], size):
                    self.assertIs(is_knot(some, net), False, net)

    def test_a_net_that_has_a_knot_is_told_one_of(self):
        dice = random.Random(135)
        for _ in range(200):
            net = chance_knot_net(dice.randint(6, 12), dice.randint(9, 40), dice)
            self.assertFalse(is_flat(net), net)


class FlatWheels(unittest.TestCase):
    def setUp(self):
        self.pairs = flat_ones(nets_of_all_sizes(136, 300) + list(small_nets()) + list(nets_of(5))[::40])

    def test_each_ring_parts_the_faces_in_two(self):
        dice = random.Random(137)
        for net, wheel in self.pairs:
            for way in some_rings(net, dice):
                self.assertIs(is_ring(way, net), True)
                one, other = parted(net, wheel, way)
                part = next(part for part in parts_of(net) if way[0] in part)
                own = tuple(k for k, face in enumerate(faces_of(net, wheel)) if face[0][0] in part)
                self.assertTrue(one and other)
                self.assertEqual(tuple(sorted(one + other)), own, (net, wheel, way))

    def test_one_face_on_both_sides_just_of_edges_on_no_ring(self):
        for net, wheel in self.pairs:
            alike = tuple(edge for edge, (one, other) in zip(net[1], sides_of(net, wheel)) if one == other)
            self.assertEqual(alike, bridges_of(net), net)
            # An edge lies on no ring just if its ends are of two parts without it.
            for edge in net[1]:
                fewer = without(net, wheel, edge)[0]
                self.assertEqual(edge in alike, len(parts_of(fewer)) > len(parts_of(net)), net)

    def test_an_edge_taken_out_leaves_a_flat_wheel(self):
        for net, wheel in self.pairs:
            for edge in net[1]:
                fewer, rest = without(net, wheel, edge)
                self.assertTrue(is_net(fewer) and is_wheel(rest, fewer) and handles(fewer, rest) == 0, net)
                self.assertTrue(is_flat(fewer))

    def test_an_edge_put_in_leaves_a_flat_wheel_and_makes_one_face_two(self):
        dice = random.Random(138)
        for net, wheel in self.pairs:
            fine = dart_pairs(net, wheel)
            for dart, other in dice.sample(fine, min(5, len(fine))):
                more, wider = with_edge(net, wheel, dart, other)
                self.assertTrue(is_net(more) and is_wheel(wider, more) and handles(more, wider) == 0, net)
                self.assertEqual(len(faces_of(more, wider)), len(faces_of(net, wheel)) + 1)
                self.assertTrue(is_flat(more))

    def test_five_colours(self):
        for net, _ in self.pairs:
            colours = coloured(net, 5)
            self.assertTrue(well_coloured(net, colours) and max(colours) < 5, net)


class Flatness(unittest.TestCase):
    def setUp(self):
        self.nets = nets_of_all_sizes(139, 200)

    def test_flat_just_if_all_blocks_are_by_themselves(self):
        for net in self.nets:
            blocks = [by_itself(block) for block in blocks_of(net)]
            self.assertTrue(all(is_net(block) for block in blocks))
            self.assertEqual(is_flat(net), all(is_flat(block) for block in blocks), net)

    def test_whatever_names_places_have(self):
        dice = random.Random(140)
        for net in self.nets:
            for _ in range(3):
                names = tuple(dice.sample(range(net[0]), net[0]))
                self.assertEqual(is_flat(renamed(net, names)), is_flat(net), (net, names))

    def test_beside_another_just_if_both_are(self):
        dice = random.Random(141)
        small = [net for net in self.nets + list(small_nets()) if net[0] <= 7]
        small += [full(5), two_threes(), net_with(6, full(5)[1] + ((0, 5),))]
        seen = set()
        for _ in range(400):
            one, other = dice.choice(small), dice.choice(small)
            if one[0] + other[0] <= 12 and len(one[1]) + len(other[1]) <= 40:
                both = (is_flat(one), is_flat(other))
                self.assertEqual(is_flat(beside(one, other)), all(both), (one, other))
                seen.add(both)
        self.assertEqual(len(seen), 4)

    def test_flat_less_some_edges(self):
        dice = random.Random(142)
        for net, _ in flat_ones(self.nets):
            for _ in range(4):
                self.assertTrue(is_flat((net[0], tuple(edge for edge in net[1] if dice.random() < 0.7))), net)

    def test_flat_with_an_edge_drawn_together(self):
        dice = random.Random(143)
        for net, _ in flat_ones(self.nets):
            for edge in net[1]:
                self.assertTrue(is_flat(drawn_together(net, edge)), (net, edge))
            while net[1]:
                net = drawn_together(net, dice.choice(net[1]))
                self.assertTrue(is_flat(net))

    def test_places_drawn_together_on_a_way_of_a_knot_leave_a_knot(self):
        dice = random.Random(144)
        for net in (full(5), two_threes()):
            longer = stretched(net, 12, dice)
            while longer[0] > net[0]:
                loose = [edge for edge in longer[1] if max(edge) >= net[0]]
                longer = drawn_together(longer, dice.choice([edge for edge in loose if edge[1] == longer[0] - 1]))
                self.assertTrue(is_knot(longer[1], longer))


class KindsAndSameness(unittest.TestCase):
    def asked(self, function, *handed):
        """What is told, or the refusal's name; asked twice, with nothing changed that was handed in."""
        answers = []
        before = repr(handed)
        for _ in range(2):
            try:
                answers.append(function(*handed))
            except YardError as error:
                answers.append(error.__class__.__name__)
        self.assertEqual(repr(answers[0]), repr(answers[1]), (function, handed))
        self.assertEqual(repr(handed), before, function)
        return answers[0]

    def told(self, function, *handed):
        answer = self.asked(function, *handed)
        self.assertTrue(told_kinds(answer), (function, handed, answer))
        return answer

    def test_all_that_is_told_of_nets(self):
        dice = random.Random(145)
        for net in nets_of_all_sizes(146, 60):
            for function in (written, parts_of, blocks_of, bridges_of, joints_of, drawn):
                self.told(function, net)
            self.assertEqual(self.told(read, written(net)), net)
            self.told(neighbours, net, net[0] - 1)
            self.told(renamed, net, tuple(dice.sample(range(net[0]), net[0])))
            self.told(beside, net, ring(3))
            for many in (1, 3, 12):
                self.told(coloured, net, many)
            for pair in dice.sample(all_pairs(12), 5):
                self.told(drawn_together, net, pair)
            self.assertIs(self.asked(is_net, net), True)
            for function, thing in ((are_edges, net[1]), (is_knot, net[1]), (is_ring, (0, 1, 2)),
                                    (is_wheel, drawn(net)[1])):
                self.assertIn(repr(self.asked(function, thing, net)), ("True", "False"))

    def test_all_that_is_told_of_flat_wheels(self):
        dice = random.Random(147)
        for net, wheel in flat_ones(nets_of_all_sizes(148, 100)):
            for function in (faces_of, handles, sides_of, outer_face):
                self.told(function, net, wheel)
            for way in some_rings(net, dice) + [(0, 1, 2), ()]:
                self.told(parted, net, wheel, way)
            for pair in dice.sample(all_pairs(12), 5) + list(net[1][:2]):
                self.told(without, net, wheel, pair)
                self.told(with_edge, net, wheel, pair, pair[::-1])
            for dart, other in dart_pairs(net, wheel)[:3]:
                self.told(with_edge, net, wheel, dart, other)

    def test_hung_together_nets_have_their_blocks(self):
        net = hung_together(full(4), ring(3), full(5))
        self.assertEqual([len(block) for block in blocks_of(net)], [6, 3, 10])
        self.assertEqual(drawn(net), ("knot", blocks_of(net)[2]))


if __name__ == "__main__":
    unittest.main()
