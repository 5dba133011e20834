"""Plans: what fits a program, and what stands where in a plan."""

from furrow.deeds import alike_numbers, nested

MOST_PAIRS = 6
MOST_SHIFT = 1000000000000000000


def fits(program, plan):
    stood = deeds_within(plan, (), ())
    # Numbers of no deed are seen here, ahead of any deed being looked up.
    if sorted([k for k, places, path, cuts in stood]) != list(range(len(program.deeds))):
        return False
    if has_bare_sweep(plan):
        return False
    return all([well_placed(program.deeds[k], places, cuts) for k, places, path, cuts in stood])


def deeds_within(items, path, cuts):
    # Each deed with its pairs, its path, and which of the sweeps round it
    # are cut.
    found = []
    for number, item in enumerate(items):
        here = path + (number,)
        if item[0] == "deed":
            found.append((item[1], item[2], here, cuts))
        else:
            found.extend(deeds_within(item[3], here, cuts + (item[1],)))
    return found


def has_bare_sweep(items):
    return any([item[0] == "sweep" and (item[3] == () or has_bare_sweep(item[3])) for item in items])


def well_placed(deed, places, cuts):
    many = len(deed.names)
    if len(places) != len(cuts) or len(places) > MOST_PAIRS:
        return False
    for loop, shift in places:
        if loop < 0 or loop >= many or abs(shift) > MOST_SHIFT:
            return False
    whole = [place[0] for place, cut in zip(places, cuts) if not cut]
    return sorted(whole) == list(range(many))


def own_plan(program):
    return own_items(program.deeds, nested(program.deeds))


def own_items(deeds, items):
    found = []
    for k, inner in items:
        if inner is None:
            found.append(("deed", k, tuple([(e, 0) for e in range(len(deeds[k].names))])))
        else:
            found.append(("sweep", False, "up", own_items(deeds, inner)))
    return tuple(found)


def sweeps_of(plan):
    return sweeps_within(plan, ())


def sweeps_within(items, path):
    found = []
    for number, item in enumerate(items):
        if item[0] == "sweep":
            here = path + (number,)
            found.append((here, item[1], item[2]))
            found.extend(sweeps_within(item[3], here))
    return found


def stand(plan, k):
    for number, places, path, cuts in deeds_within(plan, (), ()):
        if number == k:
            return (path, places)
    return None


def round_both(plan, k, l):
    # Of each sweep round both deeds, from outside: its path, whether it is
    # cut, its way, and the pairs that k and l have there.
    one = stand(plan, k)
    other = stand(plan, l)
    found = []
    items = plan
    for level in range(alike_numbers(one[0], other[0], min(len(one[1]), len(other[1])))):
        item = items[one[0][level]]
        found.append((one[0][:level + 1], item[1], item[2], one[1][level], other[1][level]))
        items = item[3]
    return found
