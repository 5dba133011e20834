"""Sides: where a plan might not do a turn of one deed behind a turn of another."""

from furrow.plans import round_both, stand

# By a sweep's way: what k's time there is, against l's, where l's turn isn't
# done behind k's.
SIDES = {"up": ("more",), "down": ("less",), "any": ("less", "more")}


def sides(program, plan, k, l):
    both = round_both(plan, k, l)
    found = []
    for level, sweep in enumerate(both):
        for side in SIDES[sweep[2]]:
            found.append((level, side))
    # Paths rise as the deeds stand in the plan.
    if stand(plan, l)[0] < stand(plan, k)[0]:
        found.append((len(both), "text"))
    return found


def side_bonds(program, plan, k, l, level, side):
    behind = 1 + len(program.deeds[k].names)
    bonds = []
    for number, sweep in enumerate(round_both(plan, k, l)):
        u = 1 + sweep[3][0]
        w = behind + sweep[4][0]
        # By how much k's value is above l's where their times are alike.
        above = sweep[4][1] - sweep[3][1]
        if number < level and not sweep[1]:
            bonds.append((u, w, above))
            bonds.append((w, u, -above))
        if number == level and side == "more":
            bonds.append((w, u, -above - 1))
        if number == level and side == "less":
            bonds.append((u, w, above - 1))
    return bonds
