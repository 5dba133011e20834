"""Runs by a plan: the order of all turns, with the lists of sweeps woven."""

from furrow.errors import NoWidth
from furrow.plain import every_turn
from furrow.plans import stand
from furrow.times import number_shown, rulers


class Run:
    def __init__(self, code, widths, picks):
        self.stands = [stand(code.plan, k) for k in range(len(code.deeds))]
        self.ruled = rulers(code.plan, code.spans, widths)
        self.picks = picks
        # The number of the pick that comes next; it may lie beyond the last.
        self.at = 0


def woven(lists, picks):
    answer = woven_from(lists, picks, 0)
    return (answer[0], min(answer[1], len(picks)))


def woven_from(lists, picks, first):
    left = [members for members in lists if len(members) > 0]
    taken = [0] * len(left)
    told = []
    needed = 0
    while len(left) > 1:
        pick = picks[first + needed] if first + needed < len(picks) else 0
        needed += 1
        at = pick % len(left)
        told.append(left[at][taken[at]])
        taken[at] += 1
        if taken[at] == len(left[at]):
            left.pop(at)
            taken.pop(at)
    for members, number in zip(left, taken):
        told.extend(members[number:])
    return (told, needed)


def order(code, widths, picks):
    if len(widths) != len(code.spans) or any([width < 1 for width in widths]):
        raise NoWidth()
    run = Run(code, widths, picks)
    return items_run(run, code.plan, (), every_turn(code.deeds))


def items_run(run, items, path, turns):
    told = []
    for number, item in enumerate(items):
        # All these turns are of deeds behind the path, so that the next
        # number of their paths tells their item.
        inside = [turn for turn in turns if run.stands[turn[0]][0][len(path)] == number]
        if item[0] == "deed":
            told.extend(inside)
        else:
            told.extend(sweep_run(run, item, path + (number,), inside))
    return told


def sweep_run(run, sweep, path, turns):
    apart = put_apart(run, path, turns)
    numbers = sorted(apart)
    if sweep[2] == "down":
        numbers.reverse()
    lists = [items_run(run, sweep[3], path, apart[number]) for number in numbers]
    if sweep[2] == "any":
        return lists_woven(run, lists)
    told = []
    for members in lists:
        told.extend(members)
    return told


def lists_woven(run, lists):
    answer = woven_from(lists, run.picks, run.at)
    run.at += answer[1]
    return answer[0]


def put_apart(run, path, turns):
    # Only numbers that turns show are gone through, however far apart.
    apart = {}
    for k, values in turns:
        pair = run.stands[k][1][len(path) - 1]
        number = number_shown(values, pair, run.ruled.get(path))
        apart.setdefault(number, []).append((k, values))
    return apart
