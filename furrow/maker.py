"""Plans, made to code that can be run."""

from furrow.deeds import Deed
from furrow.times import ends


class Code:
    def __init__(self, deeds, plan, spans):
        self.deeds = deeds
        self.plan = plan
        # The ends of the cut sweeps.
        self.spans = spans


def made(program, plan):
    # Deeds of the code's own: what becomes of the program's is not the code's.
    return Code([copied(deed) for deed in program.deeds], plan, ends(program, plan))


def copied(deed):
    return Deed(deed.names, deed.lows, deed.highs, deed.table, deed.spots, deed.term, deed.path)
