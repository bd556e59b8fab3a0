"""Knots: edges of a net by which anybody sees that it has no flat wheel."""

from planeyard.parts import rows_of
from planeyard.things import are_edges

# How many edges are at each end.
SHAPES = ((4, 4, 4, 4, 4), (3, 3, 3, 3, 3, 3))


def way_from(end, first, rows):
    way = [end, first]
    # A place with two edges has one to be come by and one to go on by.
    while len(rows[way[-1]]) == 2:
        way.append([near for near in rows[way[-1]] if near != way[-2]][0])
    return way


def ways_between(ends, rows):
    ways = []
    for end in ends:
        ways.extend([way_from(end, first, rows) for first in rows[end]])
    return ways


def joined_with(end, ways):
    return sorted([way[-1] for way in ways if way[0] == end])


# Each end has to be joined with just those that are not joined with the same ones as it is. Of five ends with
# four ways each these are all the others; six with three ways each have to fall into two threes for it.
def are_well_joined(ends, ways):
    joined = [joined_with(end, ways) for end in ends]
    for each in joined:
        if each != [end for end, others in zip(ends, joined) if others != each]:
            return False
    return True


def is_knot(thing, net):
    if not are_edges(thing, net):
        return False
    rows = rows_of((net[0], thing))
    ends = [place for place in range(net[0]) if len(rows[place]) > 2]
    if any([len(row) == 1 for row in rows]) or tuple([len(rows[end]) for end in ends]) not in SHAPES:
        return False
    ways = ways_between(ends, rows)
    # Each way is there from both its ends, so that edges which lie on none would be missing from the sum.
    lengths = [len(way) - 1 for way in ways]
    return sum(lengths) == 2 * len(thing) and are_well_joined(ends, ways)
