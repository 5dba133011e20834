"""Plans looked at: good ones shown case by case, bad ones by two turns."""

from furrow.cases import side_bonds, sides
from furrow.errors import NoPlan
from furrow.leans import answer_of, case_bonds, cases_met
from furrow.plans import fits
from furrow.times import cut_paths, ends


def looked(program, plan):
    if not fits(program, plan):
        raise NoPlan()
    rings = []
    for k, a, l, b, case in cases_met(program):
        bonds = case_bonds(program, k, a, l, b, case)
        answer = answer_of(program, k, l, bonds)
        # A case that has no turns by itself needs no more bonds, whatever the
        # side: most cases are so.
        bare = answer[0] == "ring"
        for level, side in sides(program, plan, k, l):
            if not bare:
                answer = answer_of(program, k, l, bonds + side_bonds(program, plan, k, l, level, side))
            if answer[0] == "pair":
                return ("bad", (k, answer[1]), (l, answer[2]), telling_widths(program, plan, level))
            rings.append((k, a, l, b, case, level, side, list(answer[1])))
    return ("good", rings)


def telling_widths(program, plan, level):
    # As far out as ahead of the level, cut sweeps are so wide that all turns
    # show 0 there; by the width 1 each time at the level is shown by itself.
    # What other turns show, in sweeps beside, is of no matter here.
    widths = []
    for path, pair in zip(cut_paths(plan), ends(program, plan)):
        widths.append(pair[1] - pair[0] + 1 if len(path) <= level else 1)
    return widths
