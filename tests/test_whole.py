"""Point 3, over the whole program: what good plans leave, and what bad ones are told with."""

import random
import unittest

from furrow.deeds import ahead
from furrow.desk import answered
from furrow.errors import BadPlan, NoTurning
from furrow.freeing import freest
from furrow.looker import looked
from furrow.maker import made
from furrow.plain import done, turns
from furrow.plans import fits, own_plan, sweeps_of
from furrow.reader import read
from furrow.times import order_of
from furrow.turnings import cut as cutting
from furrow.turnings import freed, joined, moved, parted, swapped, turned
from furrow.weaver import order
from furrow.writer import written
from tests.helper import cut_paths_by_hand, is_turn, some_plan, some_program, touch_alike

STENCIL = """size 97
for t 0 3
 for i 1 5
  a[t][i] = a[t-1][i-1]+2*a[t-1][i]+a[t-1][i+1]
 end
end"""
PRODUCT = """size 97
for i 0 3
 for j 0 3
  c[i][j] = 0
  for k 0 3
   c[i][j] = c[i][j]+a[i][k]*b[k][j]
  end
 end
end"""
TRIANGLE = """size 97
for i 0 4
 x[i] = y[i]
 for j 0 i-1
  x[i] = x[i]-m[i][j]*x[j]
 end
 x[i] = x[i]*d[i]
end"""


def some_cells(chance, program):
    """A beginning in which nearly each cell of the program's tables holds something."""
    cells = {}
    for one in program.deeds:
        for table, spots in [(one.table, one.spots)] + one.term.reads():
            for n in range(40):
                cells[(table, tuple(chance.randint(-3, 6) for spot in spots))] = chance.randint(-200, 200)
    return cells


class Case(unittest.TestCase):
    def keeps(self, chance, program, plan, laps=3):
        """A good plan leaves what the plain run leaves."""
        everything = turns(program, 10 ** 4)
        code = made(program, plan)
        for lap in range(laps):
            cells = some_cells(chance, program)
            widths = [chance.choice((1, 2, 3, 4, 10 ** 30)) for path in cut_paths_by_hand(plan)]
            picks = [chance.choice((0, 1, 2, 5, 10 ** 20)) for n in range(chance.choice((0, 5, 300)))]
            found = order(code, widths, picks)
            self.assertEqual(sorted(found), sorted(everything))
            self.assertEqual(done(program, found, cells), done(program, everything, cells))

    def breaks(self, program, plan, one, other, widths):
        """The two turns of a bad plan are as it is told of them."""
        self.assertTrue(is_turn(program, one) and is_turn(program, other))
        self.assertTrue(ahead(program, one, other))
        self.assertTrue(touch_alike(program, one, other))
        way = order_of(program, plan, widths, one, other)
        self.assertIn(way, (0, 1))
        # Where it is open, some picks bring the other order.
        laps = range(3000) if way == 0 else range(1)
        code = made(program, plan)
        for lap in laps:
            chance = random.Random(lap)
            found = order(code, widths, [chance.randrange(60) for n in range(400)])
            if found.index(other) < found.index(one):
                return
        self.fail("the two turns are done in the plain run's order")

    def look(self, chance, program, plan):
        answer = looked(program, plan)
        if answer[0] == "good":
            self.keeps(chance, program, plan)
        else:
            self.breaks(program, plan, *answer[1:])
        return answer[0]


class ByChance(Case):
    def test_plans(self):
        chance = random.Random(71)
        seen = {"good": 0, "bad": 0}
        for lap in range(400):
            program = some_program(chance, 25)
            seen[self.look(chance, program, some_plan(chance, program))] += 1
        self.assertGreater(min(seen.values()), 120)

    def test_plans_near_the_own_one(self):
        chance = random.Random(72)
        seen = {"good": 0, "bad": 0}
        for lap in range(300):
            program = some_program(chance, 25)
            plan = own_plan(program)
            for step in range(chance.randrange(1, 6)):
                plan = self.some_step(chance, program, plan)
            self.assertIs(fits(program, plan), True)
            seen[self.look(chance, program, plan)] += 1
        self.assertGreater(min(seen.values()), 30)

    def some_step(self, chance, program, plan):
        path = chance.choice([path for path, cut_it, way in sweeps_of(plan)])
        turning = chance.choice((swapped, joined, cutting, turned, freed, moved, parted))
        more = {moved: (chance.randrange(len(program.deeds)), chance.randint(-2, 2)), parted: (1,)}.get(turning, ())
        try:
            return turning(plan, path, *more)
        except NoTurning:
            return plan

    def test_the_freest_of_the_own_plan(self):
        chance = random.Random(73)
        freed_ones = 0
        for lap in range(100):
            program = some_program(chance, 40)
            plan = freest(program, own_plan(program))
            freed_ones += plan != own_plan(program)
            self.assertEqual(self.look(chance, program, plan), "good")
        self.assertGreater(freed_ones, 40)

    def test_a_bad_plan_can_leave_other_cells(self):
        program = read(STENCIL)
        for way, expected in ((turned, "bad"), (freed, "bad")):
            self.assertEqual(looked(program, way(own_plan(program), (0,)))[0], expected)
            found = order(made(program, way(own_plan(program), (0,))), [], [3, 2, 1] * 9)
            cells = some_cells(random.Random(7), program)
            self.assertNotEqual(done(program, found, cells), done(program, turns(program, 1000), cells))


class KnownNests(Case):
    def told(self, text, *rows):
        """Whether the plan of a job is good, held against its runs."""
        chance = random.Random(74)
        program = read(text)
        job = "\n".join((written(program), "plan") + rows)
        many = len([row for row in rows if row.startswith("cut")])
        cells = some_cells(chance, program)
        answer = answered(job, cells, [2] * many, [chance.randrange(9) for n in range(100)])
        if answer[0] == "done":
            self.assertEqual(answer[2], done(program, turns(program, 2000), cells))
        return answer[0]

    def test_a_stencil(self):
        self.assertEqual(self.told(STENCIL), "done")
        self.assertEqual(self.told(STENCIL, "free 0.0"), "done")
        self.assertEqual(self.told(STENCIL, "turn 0.0"), "done")
        for rows in (("swap 0",), ("free 0",), ("turn 0",), ("cut 0", "cut 0.0.0", "swap 0.0")):
            self.assertEqual(self.told(STENCIL, *rows), "bad")
        self.assertEqual(self.told(STENCIL, "cut 0", "cut 0.0.0", "freest"), "done")

    def test_a_product_of_squares(self):
        parted_one = ("part 0.0 1", "part 0 1")
        self.assertEqual(self.told(PRODUCT), "done")
        self.assertEqual(self.told(PRODUCT, *parted_one), "done")
        for rows in (("swap 1.0",), ("swap 1",), ("swap 1.0", "swap 1"), ("free 1", "free 1.0"), ("free 0", "free 0.0"),
                     ("freest",), ("cut 1", "cut 1.0.0", "swap 1.0", "cut 1.0.0.0.0", "swap 1.0.0.0", "swap 1.0.0")):
            self.assertEqual(self.told(PRODUCT, *parted_one, *rows), "done")
        for rows in (("turn 1.0.0",), ("free 1.0.0",)):
            self.assertEqual(self.told(PRODUCT, *parted_one, *rows), "bad")

    def test_a_triangle(self):
        self.assertEqual(self.told(TRIANGLE), "done")
        self.assertEqual(self.told(TRIANGLE, "part 0 1"), "done")
        self.assertEqual(self.told(TRIANGLE, "part 0 2"), "bad")
        self.assertEqual(self.told(TRIANGLE, "free 0"), "bad")
        self.assertEqual(self.told(TRIANGLE, "freest"), "done")

    def test_a_bad_plan_has_no_freest(self):
        program = read(STENCIL)
        with self.assertRaises(BadPlan):
            freest(program, swapped(own_plan(program), (0,)))


if __name__ == "__main__":
    unittest.main()
