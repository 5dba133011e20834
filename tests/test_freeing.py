"""Points 31 and 2: the freest of a good plan."""

import copy
import random
import unittest

from furrow.errors import BadPlan, FurrowError, NoPlan
from furrow.freeing import freest
from furrow.looker import looked
from furrow.plans import fits, own_plan, sweeps_of
from furrow.reader import read
from tests.helper import cut, deed, some_plan, some_program, sweep

GREATEST = 10 ** 18 - 1
SHIFT = 10 ** 18
STEP = read("size 97\nfor i 0 9\na[i] = a[i-1]\nend")
APART = read("size 97\nfor i 0 9\na[i] = b[i-1]\nend")
SQUARE = "size 97\nfor i 0 9\nfor j 0 9\na[i][j] = {}\nend\nend"


def ways(plan):
    return [way for path, cutting, way in sweeps_of(plan)]


def with_way(items, path, way):
    """The plan with another way at the path."""
    at, *rest = path
    item = items[at]
    inner = with_way(item[3], rest, way) if rest else item[3]
    return items[:at] + (("sweep", item[1], item[2] if rest else way, inner),) + items[at + 1:]


def freest_by_hand(program, plan):
    for path, cutting, way in sorted(sweeps_of(plan)):
        tried = with_way(plan, path, "any")
        if looked(program, tried)[0] == "good":
            plan = tried
    return plan


class Freest(unittest.TestCase):
    def test_one_sweep(self):
        for way in ("up", "down", "any"):
            self.assertEqual(freest(APART, (sweep(deed(0, (0, 4)), way=way),)), (sweep(deed(0, (0, 4)), way="any"),))
        self.assertEqual(freest(STEP, own_plan(STEP)), own_plan(STEP))

    def test_no_sweep(self):
        program = read("size 9\na[0] = 1\na[0] = 2")
        self.assertEqual(freest(program, (deed(0), deed(1))), (deed(0), deed(1)))

    def test_two_sweeps(self):
        for term, expected in (("a[i-1][j]", ["up", "any"]), ("a[i][j-1]", ["any", "up"]), ("b[i][j]", ["any", "any"]),
                               ("a[i-1][j-1]", ["up", "any"]), ("a[i-1][j]+a[i][j-1]", ["up", "up"])):
            program = read(SQUARE.format(term))
            found = freest(program, own_plan(program))
            self.assertEqual(ways(found), expected)
            self.assertEqual(freest(program, found), found)

    def test_two_sweeps_swapped(self):
        for term, expected in (("a[i-1][j]", ["any", "up"]), ("a[i][j-1]", ["up", "any"]), ("b[i][j]", ["any", "any"]),
                               ("a[i-1][j-1]", ["up", "any"])):
            program = read(SQUARE.format(term))
            self.assertEqual(ways(freest(program, (sweep(sweep(deed(0, (1, 0), (0, 0)))),))), expected)

    def test_falling_ways_stay_where_they_must(self):
        program = read(SQUARE.format("a[i][j+1]"))
        plan = (sweep(sweep(deed(0, (0, 0), (1, 0)), way="up"), way="down"),)
        self.assertEqual(ways(freest(program, plan)), ["any", "up"])
        program = read("size 97\nfor i 0 9\na[i] = a[i+1]\nend")
        self.assertEqual(ways(freest(program, own_plan(program))), ["up"])

    def test_cut_sweeps_are_freed_too(self):
        program = read(SQUARE.format("a[i-1][j]"))
        plan = (cut(cut(sweep(sweep(deed(0, (0, 0), (1, 0), (0, 0), (1, 0)))))),)
        self.assertEqual(ways(freest(program, plan)), ["up", "any", "up", "any"])
        plan = (cut(sweep(deed(0, (0, 0), (0, 0)), way="down"), way="up"),)
        self.assertEqual(ways(freest(APART, plan)), ["any", "any"])

    def test_two_deeds_in_one_sweep(self):
        program = read("size 9\nfor i 0 9\na[i] = 1\nend\nfor i 0 9\nb[i] = a[i]\nend")
        plan = (sweep(deed(0, (0, 0)), deed(1, (0, 0))),)
        self.assertEqual(ways(freest(program, plan)), ["any"])
        plan = (sweep(deed(0, (0, 0)), deed(1, (0, 1))),)
        self.assertEqual(ways(freest(program, plan)), ["up"])

    def test_sweeps_side_by_side(self):
        program = read("size 9\nfor i 0 9\na[i] = a[i-1]\nend\nfor i 0 9\nb[i] = a[i]\nend\nfor i 0 9\nc[i] = c[0]\nend")
        self.assertEqual(ways(freest(program, own_plan(program))), ["up", "any", "up"])

    def test_nothing_but_ways_is_changed(self):
        program = read(SQUARE.format("a[i-1][j]"))
        plan = (cut(sweep(cut(sweep(deed(0, (0, 5), (0, -6), (1, 7), (1, 8)))))),)
        expected = (cut(sweep(cut(sweep(deed(0, (0, 5), (0, -6), (1, 7), (1, 8)), way="any"), way="any"))),)
        self.assertEqual(freest(program, plan), expected)

    def test_numbers_that_can_not_be_gone_through(self):
        for low, expected in ((0, ["up"]), (1, ["any"])):
            program = read(f"size 9\nfor i {low} {GREATEST}\na[i] = a[i-{GREATEST}]\nend")
            self.assertEqual(ways(freest(program, own_plan(program))), expected)

    def test_plans_by_chance(self):
        chance = random.Random(51)
        seen = 0
        for lap in range(70):
            program = some_program(chance)
            for plan in (own_plan(program), some_plan(chance, program), some_plan(chance, program, far=0)):
                if looked(program, plan)[0] == "bad":
                    with self.assertRaises(BadPlan):
                        freest(program, plan)
                    continue
                found = freest(program, plan)
                seen += found != plan
                self.assertEqual(found, freest_by_hand(program, plan))
                self.assertEqual(looked(program, found)[0], "good")
        self.assertGreater(seen, 40)


class Refused(unittest.TestCase):
    def refused(self, kind, program, *plan):
        with self.assertRaises(kind) as caught:
            freest(program, plan)
        self.assertIsInstance(caught.exception, FurrowError)

    def test_a_plan_that_does_not_fit(self):
        for plan in ((), (deed(0),), (sweep(deed(0)),), (sweep(deed(1, (0, 0))),), (sweep(deed(0, (1, 0))),),
                     (sweep(deed(0, (0, 0)), sweep()),), (cut(deed(0, (0, 0))),), (sweep(deed(0, (0, SHIFT + 1))),)):
            self.assertIs(fits(APART, plan), False)
            self.refused(NoPlan, APART, *plan)

    def test_a_bad_plan(self):
        for way in ("down", "any"):
            self.refused(BadPlan, STEP, sweep(deed(0, (0, 0)), way=way))
        self.refused(BadPlan, read("size 9\na[0] = 1\na[0] = 2"), deed(1), deed(0))

    def test_no_plan_goes_ahead_of_bad_plan(self):
        self.refused(NoPlan, STEP, sweep(deed(0, (0, SHIFT + 1)), way="down"))
        self.refused(NoPlan, STEP, sweep(deed(0, (0, 0)), way="any"), sweep())


class NothingIsKept(unittest.TestCase):
    def test_asked_twice_with_others_between_and_nothing_changed(self):
        program = read(SQUARE.format("a[i-1][j]"))
        plan = own_plan(program)
        kept, deeds = copy.deepcopy(plan), list(program.deeds)
        fields = [dict(vars(one)) for one in deeds]
        first = freest(program, plan)
        freest(APART, own_plan(APART))
        with self.assertRaises(NoPlan):
            freest(APART, plan)
        self.assertEqual(freest(program, plan), first)
        self.assertEqual((plan, program.deeds), (kept, deeds))
        self.assertEqual([vars(one) for one in deeds], fields)

    def test_a_deed_taken_out_and_the_program_asked_as_it_then_is(self):
        program = read("size 97\nfor i 0 9\na[i] = b[i]\nb[i] = a[i-1]\nend")
        self.assertEqual(ways(freest(program, own_plan(program))), ["up"])
        program.deeds.pop(0)
        self.assertEqual(ways(freest(program, own_plan(program))), ["any"])


if __name__ == "__main__":
    unittest.main()
