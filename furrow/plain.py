"""The plain run: its turns in their order, and what turns leave in the cells."""

from furrow.deeds import named, nested
from furrow.errors import TooMany
from furrow.terms import placed


class Walk:
    def __init__(self, deeds, most):
        self.deeds = deeds
        # How many more turns, of loops and of deeds, there may be.
        self.room = most
        self.told = []


def turns(program, most):
    items = nested(program.deeds)
    walk = Walk(program.deeds, most)
    # Counted ahead of being told: what is refused is not listed first.
    take_room(walk, deeds_among(items))
    count_loops(walk, items, ())
    return every_turn(program.deeds)


def every_turn(deeds):
    walk = Walk(deeds, 0)
    tell_items(walk, nested(deeds), ())
    return walk.told


def take_room(walk, many):
    if many > walk.room:
        raise TooMany()
    walk.room -= many


def deeds_among(items):
    return len([k for k, inner in items if inner is None])


def count_loops(walk, items, values):
    for k, inner in items:
        if inner is not None:
            count_loop(walk, k, inner, values)


def count_loop(walk, k, items, values):
    bounds = bounds_of(walk.deeds[k], values)
    many = max(bounds[1] - bounds[0] + 1, 0)
    deeds = deeds_among(items)
    # All values at once, ahead of the first one: a loop of too many is then
    # refused however many they are.
    take_room(walk, many * (1 + deeds))
    if deeds < len(items):
        for value in range(bounds[0], bounds[1] + 1):
            count_loops(walk, items, values + (value,))


def bounds_of(deed, values):
    e = len(values)
    return placed((deed.lows[e], deed.highs[e]), named(deed, values))


def tell_items(walk, items, values):
    for k, inner in items:
        if inner is None:
            walk.told.append((k, values))
        else:
            tell_loop(walk, k, inner, values)


def tell_loop(walk, k, items, values):
    bounds = bounds_of(walk.deeds[k], values)
    for value in range(bounds[0], bounds[1] + 1):
        tell_items(walk, items, values + (value,))


def done(program, turns, cells):
    held = {}

    def asked(table, place):
        return held.get((table, place), 0)

    for cell, number in cells.items():
        put(held, cell, number % program.size)
    for k, values in turns:
        deed = program.deeds[k]
        known = named(deed, values)
        worth = deed.term.worth(known, asked)
        put(held, (deed.table, placed(deed.spots, known)), worth % program.size)
    return held


def put(held, cell, rest):
    # A cell that holds 0 is told by its absence.
    if rest == 0:
        held.pop(cell, None)
    else:
        held[cell] = rest
