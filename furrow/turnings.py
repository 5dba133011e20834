"""Turnings: plans made from plans."""

from furrow.errors import NoTurning
from furrow.plans import MOST_PAIRS, MOST_SHIFT, deeds_within

OTHER_WAYS = {"up": "down", "down": "up"}


def sweep_at(plan, path):
    items = plan
    item = None
    for number in path:
        if number < 0 or number >= len(items):
            raise NoTurning()
        item = items[number]
        # Behind a deed no item is told.
        items = item[3] if item[0] == "sweep" else ()
    if item is None or item[0] != "sweep":
        raise NoTurning()
    return item


def put_at(items, path, many, others):
    # At the path, others come in the place of so many items.
    at = path[0]
    if len(path) == 1:
        return items[:at] + others + items[at + many:]
    inner = put_at(items[at][3], path[1:], many, others)
    return items[:at] + (("sweep", items[at][1], items[at][2], inner),) + items[at + 1:]


def with_places(items, change):
    found = []
    for item in items:
        if item[0] == "deed":
            found.append(("deed", item[1], change(item[1], item[2])))
        else:
            found.append(("sweep", item[1], item[2], with_places(item[3], change)))
    return tuple(found)


def swapped(plan, path):
    outer = sweep_at(plan, path)
    if len(outer[3]) != 1 or outer[3][0][0] != "sweep":
        raise NoTurning()
    inner = outer[3][0]
    at = len(path) - 1

    def change(k, places):
        return places[:at] + (places[at + 1], places[at]) + places[at + 2:]

    items = with_places(inner[3], change)
    return put_at(plan, path, 1, (("sweep", inner[1], inner[2], (("sweep", outer[1], outer[2], items),)),))


def joined(plan, path):
    one = sweep_at(plan, path)
    other = sweep_at(plan, path[:-1] + (path[-1] + 1,))
    if one[1] != other[1] or one[2] != other[2]:
        raise NoTurning()
    return put_at(plan, path, 2, (("sweep", one[1], one[2], one[3] + other[3]),))


def parted(plan, path, n):
    sweep = sweep_at(plan, path)
    if n < 1 or n >= len(sweep[3]):
        raise NoTurning()
    halves = (("sweep", sweep[1], sweep[2], sweep[3][:n]), ("sweep", sweep[1], sweep[2], sweep[3][n:]))
    return put_at(plan, path, 1, halves)


def turned(plan, path):
    sweep = sweep_at(plan, path)
    if sweep[2] not in OTHER_WAYS:
        raise NoTurning()
    return put_at(plan, path, 1, (("sweep", sweep[1], OTHER_WAYS[sweep[2]], sweep[3]),))


def moved(plan, path, k, n):
    sweep = sweep_at(plan, path)
    at = len(path) - 1
    shifts = [places[at][1] + n for number, places, where, cuts in deeds_within(sweep[3], (), ()) if number == k]
    if shifts == [] or abs(shifts[0]) > MOST_SHIFT:
        raise NoTurning()

    def change(number, places):
        if number != k:
            return places
        return places[:at] + ((places[at][0], shifts[0]),) + places[at + 1:]

    return put_at(plan, path, 1, (("sweep", sweep[1], sweep[2], with_places(sweep[3], change)),))


def cut(plan, path):
    sweep = sweep_at(plan, path)
    at = len(path) - 1
    full = any([len(places) >= MOST_PAIRS for k, places, where, cuts in deeds_within(sweep[3], (), ())])
    if sweep[1] or full:
        raise NoTurning()

    def change(k, places):
        return places[:at + 1] + places[at:]

    inner = ("sweep", False, sweep[2], with_places(sweep[3], change))
    return put_at(plan, path, 1, (("sweep", True, sweep[2], (inner,)),))


def freed(plan, path):
    sweep = sweep_at(plan, path)
    return put_at(plan, path, 1, (("sweep", sweep[1], "any", sweep[3]),))
