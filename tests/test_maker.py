"""Points 28 and 2: a plan made to code, which stays as it is whatever becomes of the program."""

import copy
import unittest

from furrow.deeds import Program
from furrow.maker import made
from furrow.plain import turns
from furrow.plans import own_plan
from furrow.reader import read
from furrow.weaver import order
from tests.helper import cut, deed, sweep

TEXT = "size 97\nfor i 0 3\nfor j i 3\na[i] = 1\nend\nb[i] = 2\nend\nc[0] = 3"
PLAN = (deed(2), cut(sweep(deed(1, (0, 5), (0, 0)), sweep(deed(0, (0, 0), (0, 0), (1, 0)), way="any"), way="down")))
WIDTHS = [3]
PICKS = [1, 0, 2]


class Made(unittest.TestCase):
    def test_the_own_plan_made_and_run(self):
        program = read(TEXT)
        self.assertEqual(order(made(program, own_plan(program)), [], []), turns(program, 100))

    def test_a_plan_made_and_run(self):
        program = read("size 9\nfor i 0 5\na[i] = 1\nend")
        plan = (cut(sweep(deed(0, (0, 7), (0, 0)), way="down")),)
        self.assertEqual(order(made(program, plan), [4], []), [(0, (n,)) for n in (3, 2, 1, 0, 5, 4)])

    def test_numbers_that_can_not_be_gone_through(self):
        far = 10 ** 18 - 1
        program = read(f"size 9\nfor i -{far} {far}\nfor j i-{far} i+{far}\na[i] = 1\nend\nend")
        made(program, (cut(sweep(sweep(deed(0, (1, 10 ** 18), (0, 0), (1, 0))))),))


class NothingIsKept(unittest.TestCase):
    def setUp(self):
        self.program = read(TEXT)
        self.told = order(made(self.program, PLAN), WIDTHS, PICKS)

    def run_again(self, code):
        self.assertEqual(order(code, WIDTHS, PICKS), self.told)

    def test_deeds_taken_out_behind(self):
        for k in range(3):
            program = read(TEXT)
            code = made(program, PLAN)
            program.deeds.pop(k)
            self.run_again(code)
            self.assertEqual(len(program.deeds), 2)

    def test_all_deeds_taken_out_behind(self):
        code = made(self.program, PLAN)
        self.program.deeds.clear()
        self.run_again(code)

    def test_deeds_turned_round_put_in_or_changed_for_others_behind(self):
        code = made(self.program, PLAN)
        self.program.deeds.reverse()
        self.run_again(code)
        self.program.deeds.append(self.program.deeds[0])
        self.run_again(code)
        self.program.deeds[:] = read("size 9\nz[0] = 1").deeds * 3
        self.run_again(code)

    def test_a_deed_itself_changed_behind(self):
        code = made(self.program, PLAN)
        for one in self.program.deeds:
            one.lows, one.highs, one.names, one.path = (), (), (), (9,)
        self.run_again(code)

    def test_the_size_changed_behind(self):
        code = made(self.program, PLAN)
        self.program.size = 2
        self.program.deeds = []
        self.run_again(code)

    def test_a_deed_taken_out_ahead(self):
        program = Program(97, self.program.deeds)
        program.deeds.pop(0)
        plan = (deed(1), sweep(deed(0, (0, 0)), way="down"))
        self.assertEqual(order(made(program, plan), [], []), [(1, ())] + [(0, (n,)) for n in (3, 2, 1, 0)])

    def test_what_is_handed_in_is_not_changed(self):
        plan, deeds = copy.deepcopy(PLAN), list(self.program.deeds)
        fields = [dict(vars(one)) for one in deeds]
        self.run_again(made(self.program, PLAN))
        self.assertEqual(PLAN, plan)
        self.assertEqual(self.program.deeds, deeds)
        self.assertEqual([vars(one) for one in self.program.deeds], fields)

    def test_codes_made_side_by_side(self):
        code = made(self.program, PLAN)
        other = made(self.program, own_plan(self.program))
        self.assertEqual(order(other, [], []), turns(self.program, 100))
        self.run_again(code)
        self.run_again(made(self.program, PLAN))
        self.assertEqual(order(other, [], []), turns(self.program, 100))


if __name__ == "__main__":
    unittest.main()
