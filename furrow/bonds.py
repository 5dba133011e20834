"""Bonds: bounds on how much one unknown is above another one."""


def settled(count, bonds):
    values = [0] * count
    lowered_by = [None] * count
    lowered = None
    # Where there are values, each is found by way of less than count bonds,
    # so one round more lowers nothing.
    for lap in range(count):
        lowered = lowered_in_a_round(bonds, values, lowered_by)
        if lowered is None:
            return ("values", [value - values[0] for value in values])
    return ("ring", ring_behind(count, bonds, lowered_by, lowered))


def lowered_in_a_round(bonds, values, lowered_by):
    lowered = None
    for number, bond in enumerate(bonds):
        top = values[bond[1]] + bond[2]
        if values[bond[0]] > top:
            values[bond[0]] = top
            lowered_by[bond[0]] = number
            lowered = bond[0]
    return lowered


def ring_behind(count, bonds, lowered_by, lowered):
    # What was lowered in the last round may stand only at the end of a way
    # that comes from the ring: count steps back are surely in the ring.
    start = lowered
    for lap in range(count):
        start = bonds[lowered_by[start]][1]
    ring = [lowered_by[start]]
    at = bonds[lowered_by[start]][1]
    while at != start:
        ring.append(lowered_by[at])
        at = bonds[lowered_by[at]][1]
    return ring
