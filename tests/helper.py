"""What several tests hold the program's answers against."""

import itertools

from furrow.terms import Cell, Number, Value


def told_term(term):
    """A term as texts, numbers and tuples, which can be compared."""
    if isinstance(term, Number):
        return term.n
    if isinstance(term, Value):
        return term.name
    if isinstance(term, Cell):
        return ("cell", term.table, term.spots)
    return (term.sign, told_term(term.left), told_term(term.right))


def told(program):
    """A program as values that can be compared."""
    return (program.size, [(deed.names, deed.lows, deed.highs, deed.table, deed.spots,
                            told_term(deed.term), deed.path) for deed in program.deeds])


def shortest(count, bonds):
    """The lengths of the shortest chains between all unknowns, None where there is none."""
    far = [[0 if x == y else None for y in range(count)] for x in range(count)]
    for x, y, c in bonds:
        if far[x][y] is None or c < far[x][y]:
            far[x][y] = c
    for z, x, y in itertools.product(range(count), repeat=3):
        if far[x][z] is not None and far[z][y] is not None:
            if far[x][y] is None or far[x][z] + far[z][y] < far[x][y]:
                far[x][y] = far[x][z] + far[z][y]
    return far


def has_values(count, bonds):
    far = shortest(count, bonds)
    return all(far[x][x] >= 0 for x in range(count))


def holds(bonds, values):
    return all(values[x] - values[y] <= c for x, y, c in bonds)


def is_ring(bonds):
    """Whether bonds, in their order, are a ring whose sum is below nought."""
    linked = all(bond[1] == following[0] for bond, following in zip(bonds, bonds[1:] + bonds[:1]))
    return len(bonds) > 0 and linked and sum(bond[2] for bond in bonds) < 0
