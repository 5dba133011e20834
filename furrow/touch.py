"""What a deed touches, and the bonds of its loops and of a like place."""


def touches(deed):
    reads = [(False, table, spots) for table, spots in deed.term.reads()]
    return [(True, deed.table, deed.spots)] + reads


def loop_bonds(deed, first):
    bonds = []
    for e in range(len(deed.names)):
        low = deed.lows[e]
        high = deed.highs[e]
        bonds.append((unknown_of(low, deed.names, first), first + e, -low[1]))
        bonds.append((first + e, unknown_of(high, deed.names, first), high[1]))
    return bonds


def like_bonds(spots, names, first, others, other_names, other_first):
    bonds = []
    for spot, other in zip(spots, others):
        u = unknown_of(spot, names, first)
        w = unknown_of(other, other_names, other_first)
        bonds.append((u, w, other[1] - spot[1]))
        bonds.append((w, u, spot[1] - other[1]))
    return bonds


def unknown_of(spot, names, first):
    if spot[0] == "":
        return 0
    return first + names.index(spot[0])
