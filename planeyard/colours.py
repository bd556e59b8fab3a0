"""Places coloured so that no two neighbours are alike."""

from planeyard.parts import rows_of


def colours_near(place, colours, rows):
    return [colours[near] for near in rows[place] if colours[near] is not None]


def with_colour(place, colour, colours):
    return colours[:place] + [colour] + colours[place + 1:]


def worth_trying(place, colours, many, rows):
    # Colours that no place has yet are alike, so the least of them is tried for all;
    # by that those that places have are always the least ones.
    used = len(set([colour for colour in colours if colour is not None]))
    near = colours_near(place, colours, rows)
    return [colour for colour in range(min(used + 1, many)) if colour not in near]


def hardest_place(bare, colours, rows):
    return max(bare, key=lambda place: (len(set(colours_near(place, colours, rows))), len(rows[place])))


# Hardest places first: what can't be ended is then seen after few steps, where the
# places' own order may lead through all colours of places that have nothing to do with it.
def can_be_ended(colours, many, rows):
    bare = [each for each in range(len(rows)) if colours[each] is None]
    if not bare:
        return True
    place = hardest_place(bare, colours, rows)
    for colour in worth_trying(place, colours, many, rows):
        if can_be_ended(with_colour(place, colour, colours), many, rows):
            return True
    return False


def with_least_colour(place, colours, many, rows):
    for colour in worth_trying(place, colours, many, rows):
        more = with_colour(place, colour, colours)
        if can_be_ended(more, many, rows):
            return more
    return None


def coloured(net, many):
    rows = rows_of(net)
    colours = [None for row in rows]
    for place in range(net[0]):
        colours = with_least_colour(place, colours, many, rows)
        if colours is None:
            return None
    return tuple(colours)
