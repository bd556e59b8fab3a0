"""Nets and odd things that the tests share."""

import itertools


def all_pairs(count):
    return tuple(itertools.combinations(range(count), 2))


def nets_of(count):
    """Every net of so many places."""
    pairs = all_pairs(count)
    for size in range(len(pairs) + 1):
        for edges in itertools.combinations(pairs, size):
            yield (count, edges)


def small_nets():
    for count in range(1, 5):
        yield from nets_of(count)


def fan(count):
    """Place 0 joined with all others, and these in a row."""
    return (count, tuple(sorted(
        [(0, k) for k in range(1, count)] + [(k, k + 1) for k in range(1, count - 1)])))


def crowded(count, size):
    """So many places, and the first so many of their pairs as edges."""
    return (count, all_pairs(count)[:size])


def big_nets():
    """Nets of five to twelve places, of no edges up to 40."""
    for count in range(5, 13):
        yield (count, ())
        yield fan(count)
        yield crowded(count, 40)
        yield (count, all_pairs(count)[-40:])
        yield (count, all_pairs(count)[::3])
        yield (count, ((count - 2, count - 1),))


def sample_nets():
    return list(small_nets()) + list(big_nets())


def nested(depth, inmost, kind):
    thing = inmost
    for _ in range(depth):
        thing = kind([thing])
    return thing


def deep_things():
    """Things nested some thirty deep, of tuples, of lists and of both."""
    things = []
    for depth in (1, 2, 3, 29, 30, 31, 33):
        for inmost in ((), [], 0, True, None, "net 1", (1, ())):
            for kind in (tuple, list):
                things.append(nested(depth, inmost, kind))
            mixed = inmost
            for step in range(depth):
                mixed = (mixed, 1) if step % 2 else [mixed]
            things.append(mixed)
    return things


def odd_things():
    """Things that are no net, no edges but none, no wheel and no ring of any net."""
    return [
        0, 1, -1, 12, 10 ** 40, True, False, None, "", "net 1", "abc", "()", [], [[]],
        [1, ()], (None,), (True,), ("",), ((), None), (1, 2, "3"), ([], []), ((1,),),
    ] + deep_things()


def edge_places(net):
    """For each place the set of its neighbours."""
    return [{b for edge in net[1] for a, b in (edge, edge[::-1]) if a == place}
            for place in range(net[0])]


def wheels_of(net):
    """Every wheel of a net."""
    choices = []
    for near in edge_places(net):
        row = sorted(near)
        choices.append([tuple(row[:1]) + rest for rest in itertools.permutations(row[1:])])
    return itertools.product(*choices)


def with_truth(row, k):
    """The row with a truth at k, equal to what was there: k holds 0 or 1."""
    return row[:k] + (bool(row[k]),) + row[k + 1:]
