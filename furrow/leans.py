"""Leanings: where the plain run does one touch of a cell ahead of another one."""

from furrow.bonds import settled
from furrow.deeds import shared
from furrow.touch import like_bonds, loop_bonds, touches


def meets(program):
    touched = all_touches(program)
    found = []
    # Both walks rise, so what is found is sorted.
    for k, a, touch in touched:
        for l, b, other in touched:
            if touch[1] == other[1] and (touch[0] or other[0]):
                found.append((k, a, l, b))
    return found


def all_touches(program):
    found = []
    for k, deed in enumerate(program.deeds):
        for a, touch in enumerate(touches(deed)):
            found.append((k, a, touch))
    return found


def cases(program, k, l):
    many = shared(program.deeds[k], program.deeds[l])
    # With all shared loops alike, only the lesser deed comes ahead.
    if k < l:
        many += 1
    return list(range(many))


def case_bonds(program, k, a, l, b, case):
    one = program.deeds[k]
    other = program.deeds[l]
    behind = 1 + len(one.names)
    spots = touches(one)[a][2]
    others = touches(other)[b][2]
    bonds = loop_bonds(one, 1) + loop_bonds(other, behind)
    bonds.extend(like_bonds(spots, one.names, 1, others, other.names, behind))
    bonds.extend(order_bonds(shared(one, other), case, behind))
    return bonds


def order_bonds(many, case, behind):
    bonds = []
    for e in range(case):
        bonds.append((1 + e, behind + e, 0))
        bonds.append((behind + e, 1 + e, 0))
    if case < many:
        bonds.append((1 + case, behind + case, -1))
    return bonds


def leanings(program):
    found = []
    for k, a, l, b, case in cases_met(program):
        bonds = case_bonds(program, k, a, l, b, case)
        found.append((k, a, l, b, case, answer_of(program, k, l, bonds)))
    return found


def cases_met(program):
    found = []
    for k, a, l, b in meets(program):
        for case in cases(program, k, l):
            found.append((k, a, l, b, case))
    return found


def answer_of(program, k, l, bonds):
    behind = 1 + len(program.deeds[k].names)
    answer = settled(behind + len(program.deeds[l].names), bonds)
    if answer[0] == "ring":
        return ("ring", [bonds[number] for number in answer[1]])
    return ("pair", tuple(answer[1][1:behind]), tuple(answer[1][behind:]))
