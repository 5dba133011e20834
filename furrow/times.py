"""Times: the ends of cut sweeps, and the order in which a plan does two turns."""

from furrow.errors import NoValues
from furrow.plans import deeds_within, round_both, stand, sweeps_of
from furrow.reach import most
from furrow.touch import loop_bonds


def ends(program, plan):
    return [ends_at(program, plan, path) for path in cut_paths(plan)]


def cut_paths(plan):
    return [path for path, cut, way in sweeps_of(plan) if cut]


def ends_at(program, plan, path):
    depth = len(path)
    times = []
    for k, places, where, cuts in deeds_within(plan, (), ()):
        if where[:depth] == path:
            times.extend(end_times(program.deeds[k], places[depth - 1]))
    if times == []:
        return (0, 0)
    return (min(times), max(times))


def end_times(deed, pair):
    # By bonds, not by the turns: these may be too many to be gone through.
    bonds = loop_bonds(deed, 1)
    count = 1 + len(deed.names)
    try:
        below = most(count, bonds, 0, 1 + pair[0])
        above = most(count, bonds, 1 + pair[0], 0)
    except NoValues:
        return []
    return [pair[1] - below[0], pair[1] + above[0]]


def rulers(plan, found, widths):
    # By the path of each cut sweep its least end and its width.
    return dict([(path, (pair[0], width)) for path, pair, width in zip(cut_paths(plan), found, widths)])


def number_shown(values, pair, ruler):
    # A whole sweep has no ruler.
    time = values[pair[0]] + pair[1]
    if ruler is None:
        return time
    return (time - ruler[0]) // ruler[1]


def order_of(program, plan, widths, one, other):
    ruled = rulers(plan, ends(program, plan), widths)
    for path, cut, way, pair, other_pair in round_both(plan, one[0], other[0]):
        number = number_shown(one[1], pair, ruled.get(path))
        other_number = number_shown(other[1], other_pair, ruled.get(path))
        if number != other_number:
            return order_by_way(way, number < other_number)
    # Paths rise as the deeds stand in the plan.
    return -1 if stand(plan, one[0])[0] < stand(plan, other[0])[0] else 1


def order_by_way(way, less):
    if way == "any":
        return 0
    return -1 if less == (way == "up") else 1
