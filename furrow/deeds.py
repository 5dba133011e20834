"""Programs and their deeds, and the turns of the plain run."""

from furrow.terms import placed


class Deed:
    def __init__(self, names, lows, highs, table, spots, term, path):
        self.names = names
        self.lows = lows
        self.highs = highs
        self.table = table
        self.spots = spots
        self.term = term
        self.path = path


class Program:
    def __init__(self, size, deeds):
        self.size = size
        # A copy: what the asker does to the list later is not the program's.
        self.deeds = list(deeds)


def shared(one, other):
    # Only the paths tell one loop from another: loops side by side may have
    # the same name and bounds.
    return alike_numbers(one.path, other.path, min(len(one.names), len(other.names)))


def alike_numbers(path, other, most):
    # How many numbers, of the first most ones, two paths begin with alike.
    for e in range(most):
        if path[e] != other[e]:
            return e
    return most


def named(deed, values):
    return dict(zip(deed.names, values))


def within(deed, values):
    known = named(deed, values)
    lows = placed(deed.lows, known)
    highs = placed(deed.highs, known)
    for low, value, high in zip(lows, values, highs):
        if value < low or value > high:
            return False
    return True


def ahead(program, one, other):
    # The deeds are looked up at each call, since one may have been taken out
    # of the program's list by now.
    depth = shared(program.deeds[one[0]], program.deeds[other[0]])
    for e in range(depth):
        if one[1][e] != other[1][e]:
            return one[1][e] < other[1][e]
    return one[0] < other[0]


def nested(deeds):
    # The program as its text has it: each item is a pair of a deed's number
    # and None, or of the first deed in a loop and the items of that loop.
    return items_within(deeds, list(range(len(deeds))), 0)


def items_within(deeds, numbers, depth):
    items = []
    for group in neighbours(deeds, numbers, depth):
        k = group[0]
        if len(deeds[k].names) == depth:
            items.append((k, None))
        else:
            items.append((k, items_within(deeds, group, depth + 1)))
    return items


def neighbours(deeds, numbers, depth):
    # Only whether numbers of paths are alike counts: where a deed was taken
    # out, the paths of the others leave a number out.
    groups = []
    for k in numbers:
        if groups and deeds[groups[-1][0]].path[depth] == deeds[k].path[depth]:
            groups[-1].append(k)
        else:
            groups.append([k])
    return groups
