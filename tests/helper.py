"""What several tests hold the program's answers against."""

import itertools

from furrow.deeds import named, within
from furrow.plain import turns
from furrow.reader import read
from furrow.terms import Cell, Number, Value, placed
from furrow.touch import touches

WAYS = ("up", "down", "any")


def told_term(term):
    """A term as texts, numbers and tuples, which can be compared."""
    if isinstance(term, Number):
        return term.n
    if isinstance(term, Value):
        return term.name
    if isinstance(term, Cell):
        return ("cell", term.table, term.spots)
    return (term.sign, told_term(term.left), told_term(term.right))


def told(program):
    """A program as values that can be compared."""
    return (program.size, [(deed.names, deed.lows, deed.highs, deed.table, deed.spots,
                            told_term(deed.term), deed.path) for deed in program.deeds])


def shortest(count, bonds):
    """The lengths of the shortest chains between all unknowns, None where there is none."""
    far = [[0 if x == y else None for y in range(count)] for x in range(count)]
    for x, y, c in bonds:
        if far[x][y] is None or c < far[x][y]:
            far[x][y] = c
    for z, x, y in itertools.product(range(count), repeat=3):
        if far[x][z] is not None and far[z][y] is not None:
            if far[x][y] is None or far[x][z] + far[z][y] < far[x][y]:
                far[x][y] = far[x][z] + far[z][y]
    return far


def has_values(count, bonds):
    far = shortest(count, bonds)
    return all(far[x][x] >= 0 for x in range(count))


def holds(bonds, values):
    return all(values[x] - values[y] <= c for x, y, c in bonds)


def is_ring(bonds):
    """Whether bonds, in their order, are a ring whose sum is below nought."""
    linked = all(bond[1] == following[0] for bond, following in zip(bonds, bonds[1:] + bonds[:1]))
    return len(bonds) > 0 and linked and sum(bond[2] for bond in bonds) < 0


def sweep(*items, cut=False, way="up"):
    return ("sweep", cut, way, items)


def cut(*items, way="up"):
    return ("sweep", True, way, items)


def deed(k, *places):
    return ("deed", k, places)


def some_items(chance, names, room):
    """Rows of items, with few turns, and how many deeds are in them."""
    rows, many = [], 0
    while many == 0 or (many < room and chance.random() < 0.5):
        if names and (len(names) == 3 or chance.random() < 0.6):
            rows.append(some_cell(chance, names) + " = " + some_term(chance, names))
            many += 1
            continue
        name = chance.choice([name for name in "ijkm" if name not in names])
        round_it = chance.choice(names + ("", ""))
        low, far = chance.randint(-1, 1), chance.choice((-1, 0, 1, 1, 2, 2))
        bounds = [round_it + f"{n:+}" if round_it else str(n) for n in (low, low + far)]
        inner, more = some_items(chance, names + (name,), room - many)
        rows += [f"for {name} {bounds[0]} {bounds[1]}"] + inner + ["end"]
        many += more
    return rows, many


def some_cell(chance, names):
    table = chance.choice("aab")
    spots = [chance.choice(names + names + ("",)) for n in range(2 if table == "a" else 1)]
    return table + "".join(f"[{name}{chance.randint(-1, 1):+}]" if name else f"[{chance.randint(0, 1)}]"
                           for name in spots)


def some_term(chance, names):
    parts = [chance.choice((some_cell(chance, names), chance.choice(names), str(chance.randrange(9))))
             for n in range(chance.choice((1, 2, 2, 3)))]
    return parts[0] + "".join(chance.choice("+-*") + part for part in parts[1:])


def some_program(chance, most=60):
    """A program made by chance, of at most so many turns, of loops and of deeds."""
    while True:
        rows, many = some_items(chance, (), 3)
        if chance.random() < 0.2:
            rows.insert(chance.choice((0, len(rows))), "b[0] = b[1]+a[0][0]+1")
        program = read("\n".join(["size 97"] + rows))
        if len(turns(program, 10 ** 4)) <= most:
            return program


def some_plan(chance, program, ways=WAYS, far=2):
    """A plan made by chance that fits the program, of at most three cut sweeps round a deed."""
    many = [len(one.names) for one in program.deeds]

    def grown(group, room):
        # Of each deed of the group: its number, its pairs by now, and its loops in no whole sweep by now.
        items = []
        group = chance.sample(group, len(group))
        while group:
            k, places, left = group.pop(0)
            if not left and (many[k] == 0 or room == 0 or chance.random() < 0.8):
                items.append(deed(k, *places))
                continue
            cutting = not left or (room > 0 and chance.random() < 0.3)
            chosen = [(k, places, left)]
            for one in list(group):
                if (one[2] or (cutting and many[one[0]])) and chance.random() < 0.7:
                    group.remove(one)
                    chosen.append(one)
            inner = []
            for k, places, left in chosen:
                loop = chance.choice(range(many[k]) if cutting else left)
                inner.append((k, places + ((loop, chance.randint(-far, far)),),
                              left if cutting else tuple(e for e in left if e != loop)))
            items.append(sweep(*grown(inner, room - cutting), cut=cutting, way=chance.choice(ways)))
        return tuple(items)

    return grown([(k, (), tuple(range(loops))) for k, loops in enumerate(many)], 3)


def place_of(program, turn, touch):
    one = program.deeds[turn[0]]
    return placed(touches(one)[touch][2], named(one, turn[1]))


def cells_of(program, turn):
    """The cells that a turn touches, with whether it writes them."""
    one = program.deeds[turn[0]]
    return [(writes, table, placed(spots, named(one, turn[1]))) for writes, table, spots in touches(one)]


def touch_alike(program, one, other):
    """Whether two turns touch one cell, at least one of them writing it."""
    return any(touch[1:] == others[1:] and (touch[0] or others[0])
               for touch in cells_of(program, one) for others in cells_of(program, other))


def is_turn(program, turn):
    one = program.deeds[turn[0]]
    return len(turn[1]) == len(one.names) and within(one, turn[1])


def chain(items, k, path=()):
    """The path and item of each sweep round deed k, from outside, and of the deed."""
    for number, item in enumerate(items):
        here = path + (number,)
        if item[:2] == ("deed", k):
            return [(here, item)]
        inner = chain(item[3], k, here) if item[0] == "sweep" else None
        if inner:
            return [(here, item)] + inner
    return None


def times_by_hand(program, plan):
    """By the path of each sweep, the times of all turns there."""
    found = {}
    for k, values in turns(program, 10 ** 5):
        *sweeps, last = chain(plan, k)
        for (path, item), (loop, shift) in zip(sweeps, last[1][2]):
            found.setdefault(path, []).append(values[loop] + shift)
    return found


def cut_paths_by_hand(plan, path=()):
    found = []
    for number, item in enumerate(plan):
        if item[0] == "sweep":
            found += [path + (number,)] * item[1] + cut_paths_by_hand(item[3], path + (number,))
    return found


def ends_by_hand(program, plan):
    times = times_by_hand(program, plan)
    return [(min(times.get(path, [0])), max(times.get(path, [0]))) for path in cut_paths_by_hand(plan)]


def order_by_hand(plan, ends, widths, one, other):
    """Point 24: -1, 0 or 1."""
    rulers = {path: (end[0], width) for path, end, width in zip(cut_paths_by_hand(plan), ends, widths)}
    chains = [chain(plan, turn[0]) for turn in (one, other)]
    for level, ((path, item), (others, last)) in enumerate(zip(*chains)):
        if path != others:
            return -1 if path < others else 1
        if item[0] == "sweep":
            shown = []
            for turn, steps in zip((one, other), chains):
                loop, shift = steps[-1][1][2][level]
                time = turn[1][loop] + shift
                least, width = rulers.get(path, (0, 1))
                shown.append((time - least) // width)
            if shown[0] != shown[1]:
                return {"any": 0, "up": -1, "down": 1}[item[2]] * (1 if shown[0] < shown[1] else -1)
    raise AssertionError("two turns are alike")


def width_choices(ends):
    """Each cut sweep with width 1 or so wide that all turns show 0."""
    return [list(widths) for widths in itertools.product(*[(1, high - low + 1) for low, high in ends])]
