"""The freest of a good plan."""

from furrow.errors import BadPlan
from furrow.looker import looked
from furrow.plans import sweeps_of
from furrow.turnings import freed


def freest(program, plan):
    if looked(program, plan)[0] == "bad":
        raise BadPlan()
    free = plan
    # A sweep that is freed stays at its path.
    for path, cut, way in sweeps_of(plan):
        if way != "any":
            tried = freed(free, path)
            if looked(program, tried)[0] == "good":
                free = tried
    return free
