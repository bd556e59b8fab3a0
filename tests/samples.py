"""Nets and odd things that the tests share."""

import itertools

from checks import least_ahead, plain_faces, plain_with_edge


def all_pairs(count):
    return tuple(itertools.combinations(range(count), 2))


def nets_of(count):
    """Every net of so many places."""
    pairs = all_pairs(count)
    for size in range(len(pairs) + 1):
        for edges in itertools.combinations(pairs, size):
            yield (count, edges)


def small_nets():
    for count in range(1, 5):
        yield from nets_of(count)


def fan(count):
    """Place 0 joined with all others, and these in a row."""
    return (count, tuple(sorted(
        [(0, k) for k in range(1, count)] + [(k, k + 1) for k in range(1, count - 1)])))


def crowded(count, size):
    """So many places, and the first so many of their pairs as edges."""
    return (count, all_pairs(count)[:size])


def big_nets():
    """Nets of five to twelve places, of no edges up to 40."""
    for count in range(5, 13):
        yield (count, ())
        yield fan(count)
        yield crowded(count, 40)
        yield (count, all_pairs(count)[-40:])
        yield (count, all_pairs(count)[::3])
        yield (count, ((count - 2, count - 1),))


def sample_nets():
    return list(small_nets()) + list(big_nets())


def nested(depth, inmost, kind):
    thing = inmost
    for _ in range(depth):
        thing = kind([thing])
    return thing


def deep_things():
    """Things nested some thirty deep, of tuples, of lists and of both."""
    things = []
    for depth in (1, 2, 3, 29, 30, 31, 33):
        for inmost in ((), [], 0, True, None, "net 1", (1, ())):
            for kind in (tuple, list):
                things.append(nested(depth, inmost, kind))
            mixed = inmost
            for step in range(depth):
                mixed = (mixed, 1) if step % 2 else [mixed]
            things.append(mixed)
    return things


def odd_things():
    """Things that are no net, no edges but none, no wheel and no ring of any net."""
    return [
        0, 1, -1, 12, 10 ** 40, True, False, None, "", "net 1", "abc", "()", [], [[]],
        [1, ()], (None,), (True,), ("",), ((), None), (1, 2, "3"), ([], []), ((1,),),
    ] + deep_things()


def edge_places(net):
    """For each place the set of its neighbours."""
    return [{b for edge in net[1] for a, b in (edge, edge[::-1]) if a == place}
            for place in range(net[0])]


def wheels_of(net):
    """Every wheel of a net."""
    choices = []
    for near in edge_places(net):
        row = sorted(near)
        choices.append([tuple(row[:1]) + rest for rest in itertools.permutations(row[1:])])
    return itertools.product(*choices)


def chance_wheel(net, dice):
    parts = []
    for near in edge_places(net):
        rest = sorted(near)[1:]
        dice.shuffle(rest)
        parts.append(tuple(sorted(near)[:1] + rest))
    return tuple(parts)


def with_truth(row, k):
    """The row with a truth at k, equal to what was there: k holds 0 or 1."""
    return row[:k] + (bool(row[k]),) + row[k + 1:]


def net_with(count, pairs):
    """The net of so many places that has these pairs as edges, however they stand."""
    return (count, tuple(sorted({(min(pair), max(pair)) for pair in pairs})))


def full(count):
    return (count, all_pairs(count))


def two_threes():
    return net_with(6, itertools.product(range(3), range(3, 6)))


def row(count):
    return net_with(count, [(k, k + 1) for k in range(count - 1)])


def ring(count):
    return net_with(count, [(k, (k + 1) % count) for k in range(count)])


def side_by_side(*nets):
    count, pairs = 0, []
    for net in nets:
        pairs += [(one + count, other + count) for one, other in net[1]]
        count += net[0]
    return net_with(count, pairs)


def hung_together(*nets):
    """The nets with the last place of each being the first of the next."""
    count, pairs = 1, []
    for net in nets:
        pairs += [(one + count - 1, other + count - 1) for one, other in net[1]]
        count += net[0] - 1
    return net_with(count, pairs)


def named(net, names):
    return net_with(net[0], [(names[one], names[other]) for one, other in net[1]])


def shuffled(net, dice):
    names = list(range(net[0]))
    dice.shuffle(names)
    return named(net, names)


def less(net, edge):
    return (net[0], tuple(each for each in net[1] if each != edge))


def place_put_on(net, edge):
    """The net with a place more, upon the edge."""
    one, other = edge
    return net_with(net[0] + 1, less(net, edge)[1] + ((one, net[0]), (other, net[0])))


def stretched(net, count, dice):
    """The net with places put on edges until there are so many places."""
    while net[0] < count:
        net = place_put_on(net, dice.choice(net[1]))
    return net


def crowded_by_chance(net, size, dice):
    """The net with edges more, by chance, until there are so many, or no pair is left."""
    left = [pair for pair in all_pairs(net[0]) if pair not in net[1]]
    more = max(0, min(size - len(net[1]), len(left)))
    return net_with(net[0], net[1] + tuple(dice.sample(left, more)))


def chance_net(count, size, dice):
    return crowded_by_chance((count, ()), size, dice)


def chance_tree(count, dice):
    return shuffled(net_with(count, [(dice.randrange(k), k) for k in range(1, count)]), dice)


def flipped(corners, dice):
    """The three-cornered faces with one edge between two of them turned, where it can be."""
    pairs = {pair for face in corners for pair in itertools.combinations(sorted(face), 2)}
    pair = dice.choice(sorted(pairs))
    sides = [face for face in corners if set(pair) <= face]
    ends = [min(face - set(pair)) for face in sides]
    if ends[0] == ends[1] or (min(ends), max(ends)) in pairs:
        return corners
    rest = [face for face in corners if face not in sides]
    return rest + [frozenset(ends) | {place} for place in pair]


def full_flat_net(count, dice):
    """A flat net of three places or more with as many edges as one may have: three times the count less 6."""
    corners = [frozenset((0, 1, 2))] * 2
    for place in range(3, count):
        face = corners.pop(dice.randrange(len(corners)))
        corners += [frozenset(pair) | {place} for pair in itertools.combinations(sorted(face), 2)]
    for _ in range(3 * count if count > 3 else 0):
        corners = flipped(corners, dice)
    net = net_with(count, [pair for face in corners for pair in itertools.combinations(sorted(face), 2)])
    return shuffled(net, dice)


def chance_flat_net(count, size, dice):
    net = full_flat_net(count, dice)
    return (count, tuple(sorted(dice.sample(net[1], min(size, len(net[1]))))))


def chance_knot_net(count, size, dice):
    """A net that has a knot, of so many places, and of so many edges or those that the knot needs."""
    seed = dice.choice([full(5), two_threes()])
    knot = stretched(seed, dice.randint(seed[0], count), dice)
    return shuffled(crowded_by_chance((count, knot[1]), size, dice), dice)


def dart_pairs(net, wheel):
    """Each two darts of one face that end at places which are no neighbours and not the same."""
    near = edge_places(net)
    return [(dart, other) for face in plain_faces(wheel) for dart, other in itertools.permutations(face, 2)
            if dart[1] != other[1] and other[1] not in near[dart[1]]]


def chance_flat_wheel(count, size, dice):
    """A net of one part and a flat wheel of it: edges are put into faces, at first of a tree."""
    net = chance_tree(count, dice)
    wheel = chance_wheel(net, dice)
    while len(net[1]) < size:
        pairs = dart_pairs(net, wheel)
        if not pairs:
            break
        net, wheel = plain_with_edge(net, wheel, *dice.choice(pairs))
    return (net, wheel)


def wheels_side_by_side(*pairs):
    count, parts = 0, []
    for net, wheel in pairs:
        parts += [tuple(near + count for near in part) for part in wheel]
        count += net[0]
    return (side_by_side(*[net for net, wheel in pairs]), tuple(parts))


def wheel_shuffled(net, wheel, dice):
    names = list(range(net[0]))
    dice.shuffle(names)
    parts = {names[place]: least_ahead(tuple(names[near] for near in part)) for place, part in enumerate(wheel)}
    return (named(net, names), tuple(parts[place] for place in range(net[0])))


def flat_wheels(dice, many):
    """So many pairs of a net and a flat wheel of it, of one part or of several, with 1 to 12 places."""
    pairs = []
    while len(pairs) < many:
        parts, left = [], dice.randint(1, 12)
        while left:
            count = dice.choice((left, left, dice.randint(1, left)))
            parts.append(chance_flat_wheel(count, dice.randint(0, 3 * count), dice))
            left -= count
        pairs.append(wheel_shuffled(*wheels_side_by_side(*parts), dice))
    return pairs


def chance_ring(net, dice):
    """A ring by chance, None where a walk closes none."""
    near = edge_places(net)
    way = [dice.randrange(net[0])]
    while near[way[-1]] - set(way[-2:]):
        way.append(dice.choice(sorted(near[way[-1]] - set(way[-2:]))))
        if way[-1] in way[:-1]:
            return tuple(way[way.index(way[-1]) + 1:])
    return None


def patched_nets():
    """Nets of parts, rings, rows and bridges hung together in some ways."""
    full_four = full(4)
    return [
        hung_together(ring(3), ring(3)), hung_together(ring(3), row(2), ring(4)),
        hung_together(ring(5), row(4), ring(3)), hung_together(row(3), ring(3), row(3)),
        hung_together(full_four, full_four, full_four),
        hung_together(full(5), full(5)), hung_together(full(5), row(2), two_threes()),
        hung_together(two_threes(), ring(3)), hung_together(ring(4), ring(4), ring(4)),
        side_by_side(ring(3), ring(3)), side_by_side((2, ()), ring(4), (1, ()), row(3), (1, ())),
        side_by_side(full(5), full(5)), side_by_side(full(5), two_threes()), side_by_side(full_four, row(2), full_four),
        side_by_side((1, ()), two_threes(), (2, ())), side_by_side(row(2), row(2), row(2), row(2)),
        # Two rings with two places in common; three with the same two.
        net_with(6, ring(6)[1] + ((0, 3),)), net_with(8, ring(6)[1] + ((0, 6), (6, 7), (3, 7))),
        # Three rings at one place; a star of bridges with a ring at the end of one.
        net_with(7, [(0, 1), (1, 2), (0, 2), (0, 3), (3, 4), (0, 4), (0, 5), (5, 6), (0, 6)]),
        net_with(8, [(0, 1), (0, 2), (0, 3), (3, 4), (4, 5), (3, 5), (0, 6), (6, 7)]),
    ]


def chance_nets(dice, many):
    """So many nets of 6 to 12 places: of any size, flat ones, ones with a knot, sparse and nearly flat ones."""
    nets = []
    while len(nets) < many:
        count = dice.randint(6, 12)
        size = dice.randint(0, 40)
        flat = chance_flat_net(count, size, dice)
        nets += [chance_net(count, size, dice), chance_net(count, dice.randint(0, 2 * count), dice), flat,
                 crowded_by_chance(flat, len(flat[1]) + 1, dice), chance_knot_net(count, size, dice)]
    return nets[:many]
