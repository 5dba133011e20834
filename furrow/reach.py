"""How much one unknown can be above another one, where bonds hold."""

from furrow.bonds import settled
from furrow.errors import NoValues


def most(count, bonds, x, y):
    answer = settled(count, bonds)
    if answer[0] == "ring":
        raise NoValues(answer[1])
    if x == y:
        return (0, [], answer[1])
    chain = shortest_chain(count, bonds, x, y)
    if chain is None:
        return None
    c = sum([bonds[number][2] for number in chain])
    # No bond holds x nearer to y than the shortest chain, so x can be asked
    # to be above y by no less than that.
    return (c, chain, settled(count, bonds + [(y, x, -c)])[1])


def shortest_chain(count, bonds, x, y):
    reached_by = chains_to(count, bonds, y)
    if reached_by[x] is None:
        return None
    chain = []
    at = x
    while at != y:
        chain.append(reached_by[at])
        at = bonds[reached_by[at]][1]
    return chain


def chains_to(count, bonds, y):
    # For each unknown the first bond of its shortest chain to y. This comes
    # to an end, since no ring of the bonds has a sum below nought.
    lengths = [None] * count
    lengths[y] = 0
    reached_by = [None] * count
    shortened = True
    while shortened:
        shortened = shortened_in_a_round(bonds, lengths, reached_by)
    return reached_by


def shortened_in_a_round(bonds, lengths, reached_by):
    shortened = False
    for number, bond in enumerate(bonds):
        if lengths[bond[1]] is not None:
            length = lengths[bond[1]] + bond[2]
            if lengths[bond[0]] is None or length < lengths[bond[0]]:
                lengths[bond[0]] = length
                reached_by[bond[0]] = number
                shortened = True
    return shortened
