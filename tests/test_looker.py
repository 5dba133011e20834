"""Points 27, 3 and 2: good plans with their rings, bad plans with two turns and widths, plans that don't fit."""

import copy
import itertools
import random
import unittest

from furrow.cases import side_bonds, sides
from furrow.deeds import Program, ahead
from furrow.errors import FurrowError, NoPlan
from furrow.leans import case_bonds, cases, meets
from furrow.looker import looked
from furrow.plain import turns
from furrow.plans import own_plan
from furrow.reader import read
from furrow.times import ends, order_of
from tests.helper import (cut, cut_paths_by_hand, deed, ends_by_hand, is_ring, is_turn, order_by_hand, some_plan,
                          some_program, sweep, touch_alike, width_choices)

GREATEST = 10 ** 18 - 1
SHIFT = 10 ** 18

STEP = read("size 97\nfor i 0 9\na[i] = a[i-1]\nend")
APART = read("size 97\nfor i 0 9\na[i] = b[i-1]\nend")
# Deed 0 in i and j, deed 1 in i, deed 2 in no loop, deed 3 in another i.
MIXED = read("size 97\nfor i 0 9\nfor j 0 9\na[i] = 1\nend\nb[i] = 2\nend\nc[0] = 3\nfor i 0 9\nd[i] = 4\nend")
SQUARE = "size 97\nfor i 0 9\nfor j 0 9\na[i][j] = {}\nend\nend"
TWO = "size 97\nfor i 0 9\na[i] = 1\nend\nfor i 0 9\nb[i] = {}\nend"


class Looked(unittest.TestCase):
    def expected_keys(self, program, plan):
        keys = []
        for k, a, l, b in sorted(meets(program)):
            for case in sorted(cases(program, k, l)):
                keys += [(k, a, l, b, case, level, side) for level, side in sides(program, plan, k, l)]
        return keys

    def good(self, program, plan):
        answer = looked(program, plan)
        self.assertEqual((type(answer), len(answer), answer[0]), (tuple, 2, "good"), answer)
        self.assertIs(type(answer[1]), list)
        self.assertEqual([told[:7] for told in answer[1]], self.expected_keys(program, plan))
        for told in answer[1]:
            self.assertIs(type(told), tuple)
            self.assertEqual([type(part) for part in told], [int] * 6 + [str, list])
            k, a, l, b, case, level, side, ring = told
            bonds = case_bonds(program, k, a, l, b, case) + side_bonds(program, plan, k, l, level, side)
            for bond in ring:
                self.assertIs(type(bond), tuple)
                self.assertIn(bond, bonds)
            self.assertTrue(is_ring(ring), told)
        return answer[1]

    def bad(self, program, plan):
        answer = looked(program, plan)
        self.assertEqual((type(answer), len(answer), answer[0]), (tuple, 4, "bad"))
        one, other, widths = answer[1:]
        for turn in (one, other):
            self.assertEqual((type(turn), type(turn[0]), type(turn[1])), (tuple, int, tuple))
            self.assertTrue(is_turn(program, turn), turn)
        self.assertTrue(ahead(program, one, other))
        self.assertTrue(touch_alike(program, one, other))
        self.assertIs(type(widths), list)
        self.assertEqual(len(widths), len(cut_paths_by_hand(plan)))
        self.assertTrue(all(type(width) is int and width >= 1 for width in widths))
        self.assertIn(order_of(program, plan, widths, one, other), (0, 1))
        self.assertIn(order_by_hand(plan, ends(program, plan), widths, one, other), (0, 1))
        return one, other, widths

    def test_a_step_by_each_way(self):
        self.good(STEP, (sweep(deed(0, (0, 0))),))
        for way in ("down", "any"):
            one, other, widths = self.bad(STEP, (sweep(deed(0, (0, 0)), way=way),))
            self.assertEqual((one[1][0] + 1, widths), (other[1][0], []))
        for way in ("up", "down", "any"):
            self.good(APART, (sweep(deed(0, (0, 0)), way=way),))

    def test_a_good_one_is_told_ring_by_ring(self):
        found = self.good(STEP, (sweep(deed(0, (0, 0))),))
        self.assertEqual([told[:7] for told in found], [(0, 0, 0, 0, 0, 0, "more"), (0, 0, 0, 1, 0, 0, "more"),
                                                        (0, 1, 0, 0, 0, 0, "more")])
        found = self.good(APART, (sweep(deed(0, (0, 0)), way="any"),))
        self.assertEqual([told[:7] for told in found], [(0, 0, 0, 0, 0, 0, "less"), (0, 0, 0, 0, 0, 0, "more")])

    def test_a_program_without_a_case_to_look_at(self):
        self.assertEqual(looked(read("size 9\na[0] = a[0]"), (deed(0),)), ("good", []))
        self.assertEqual(looked(read("size 9\na[0] = 1\na[0] = a[0]"), (deed(0), deed(1))), ("good", []))

    def test_deeds_in_no_loop(self):
        for term, good in (("a[0]", False), ("a[1]", True), ("b[0]", True)):
            program = read(f"size 9\na[0] = 1\nb[0] = {term}")
            self.good(program, (deed(0), deed(1)))
            if good:
                self.good(program, (deed(1), deed(0)))
            else:
                self.assertEqual(self.bad(program, (deed(1), deed(0))), ((0, ()), (1, ()), []))

    def test_the_two_ways_that_one_cell_can_be_touched(self):
        for row, others in (("a[0] = 1", "a[0] = 2"), ("a[0] = 1", "b[0] = a[0]"), ("b[0] = a[0]", "a[0] = 1")):
            self.bad(read(f"size 9\n{row}\n{others}"), (deed(1), deed(0)))
        # Two that read one cell have no order to keep.
        self.good(read("size 9\nb[0] = a[0]\nc[0] = a[0]"), (deed(1), deed(0)))

    def test_two_nests_made_one_sweep(self):
        for term, good in (("a[i]", True), ("a[i-1]", True), ("a[i+1]", False), ("a[0]", True), ("a[9]", False)):
            plan = (sweep(deed(0, (0, 0)), deed(1, (0, 0))),)
            (self.good if good else self.bad)(read(TWO.format(term)), plan)
        # Moved behind by one, each place is written before it is read.
        self.good(read(TWO.format("a[i+1]")), (sweep(deed(0, (0, 0)), deed(1, (0, 1))),))
        self.bad(read(TWO.format("a[i+1]")), (sweep(deed(1, (0, 1)), deed(0, (0, 0))),))
        self.good(read(TWO.format("a[i+1]")), (sweep(deed(1, (0, 2)), deed(0, (0, 0))),))
        self.bad(read(TWO.format("a[9]")), (sweep(deed(0, (0, 0)), deed(1, (0, 8))),))
        self.good(read(TWO.format("a[9]")), (sweep(deed(0, (0, 0)), deed(1, (0, 9))),))

    def test_two_loops_swapped(self):
        for term, good in (("a[i-1][j]", True), ("a[i-1][j-1]", True), ("a[i-1][j+1]", False), ("a[j][i]", False),
                           ("a[i][j+1]", True), ("a[i+1][j-1]", False), ("a[i-9][j+9]", False),
                           ("a[i-10][j+1]", True)):
            plan = (sweep(sweep(deed(0, (1, 0), (0, 0)))),)
            (self.good if good else self.bad)(read(SQUARE.format(term)), plan)

    def test_freed_sweeps(self):
        for term, outer, inner in (("a[i-1][j]", False, True), ("a[i][j-1]", True, False), ("b[i][j]", True, True),
                                   ("a[i-1][j-1]", False, True)):
            program = read(SQUARE.format(term))
            for ways, good in ((("any", "up"), outer), (("up", "any"), inner), (("any", "any"), outer and inner)):
                plan = (sweep(sweep(deed(0, (0, 0), (1, 0)), way=ways[1]), way=ways[0]),)
                (self.good if good else self.bad)(program, plan)

    def test_cut_sweeps(self):
        for term, good in (("a[i-1][j-1]", True), ("a[i-1][j+1]", False), ("a[i][j-1]", True), ("a[i-3][j+9]", False)):
            program = read(SQUARE.format(term))
            plan = (cut(cut(sweep(sweep(deed(0, (0, 0), (1, 0), (0, 0), (1, 0)))))),)
            (self.good if good else self.bad)(program, plan)
            # One cut sweep right round its whole one changes nothing.
            self.good(program, (cut(sweep(sweep(deed(0, (0, 0), (0, 0), (1, 0))))),))
        # Squares across the way of the step: the inner cut sweep tells it, with width 1.
        plan = (cut(cut(sweep(sweep(deed(0, (0, 0), (1, 0), (0, 0), (1, 0)))))),)
        one, other, widths = self.bad(read(SQUARE.format("a[i-1][j+1]")), plan)
        self.assertEqual((one[1][0] + 1, one[1][1] - 1), other[1])
        self.assertEqual((len(widths), widths[1]), (2, 1))

    def test_a_cut_sweep_ahead_is_told_wide_enough(self):
        # Only where i's cut sweep hides that i is less does j's decide.
        for far in (1, 5, 9):
            program = read(SQUARE.format(f"a[i-{far}][j+1]"))
            plan = (cut(cut(sweep(sweep(deed(0, (0, 0), (1, 0), (0, 0), (1, 0)))))),)
            self.assertGreater(self.bad(program, plan)[2][0], far)

    def test_widths_of_sweeps_that_are_not_round_both(self):
        program = read("size 9\nfor i 0 3\na[i] = 1\nend\nfor i 0 3\nb[i] = 1\nend\nfor i 0 3\nc[i] = b[3]\nend")
        plan = (cut(sweep(deed(0, (0, 0), (0, 0)))), cut(sweep(deed(1, (0, 0), (0, 0)), deed(2, (0, 0), (0, 0)))))
        self.assertEqual(len(self.bad(program, plan)[2]), 2)
        plan = plan[::-1]
        self.assertEqual(len(self.bad(program, plan)[2]), 2)

    def test_the_text_is_hidden_by_cut_sweeps(self):
        # Deed 0 goes through all values of the cut sweep ahead of deed 1, or behind it.
        program = read("size 9\nfor i 0 9\na[i] = 1\nb[i] = a[i-3]\nend")
        for order, good in (((0, 1), True), ((1, 0), False)):
            plan = (cut(*[sweep(deed(k, (0, 0), (0, 0))) for k in order]),)
            if good:
                self.good(program, plan)
            else:
                self.assertGreater(self.bad(program, plan)[2][0], 3)

    def test_deeds_without_turns_touch_nothing(self):
        for high, good in ((4, True), (5, False)):
            program = read(f"size 9\nfor i 5 {high}\na[0] = 1\nend\na[0] = 2")
            (self.good if good else self.bad)(program, (deed(1), sweep(deed(0, (0, 0)))))

    def test_numbers_that_can_not_be_gone_through(self):
        for low, good in ((0, False), (1, True)):
            program = read(f"size 9\nfor i {low} {GREATEST}\na[i] = a[i-{GREATEST}]\nend")
            for way in ("down", "any"):
                plan = (sweep(deed(0, (0, SHIFT)), way=way),)
                if good:
                    self.good(program, plan)
                else:
                    self.assertEqual(self.bad(program, plan), ((0, (0,)), (0, (GREATEST,)), []))
        for shift, good in ((GREATEST - 1, False), (GREATEST, True), (SHIFT, True)):
            program = read(f"size 9\nfor i 0 {GREATEST}\na[i] = 1\nend\nfor i 0 {GREATEST}\nb[i] = a[i+{GREATEST}]\nend")
            (self.good if good else self.bad)(program, (sweep(deed(0, (0, 0)), deed(1, (0, shift))),))

    def test_great_widths(self):
        rows = ("size 9", f"for i -{GREATEST} {GREATEST}", f"for j i-{GREATEST} i+{GREATEST}",
                f"a[i][j] = a[i-{GREATEST}][j+1]", "end", "end")
        plan = (cut(cut(sweep(sweep(deed(0, (0, SHIFT), (1, -SHIFT), (0, 0), (1, 0)))))),)
        widths = self.bad(read("\n".join(rows)), plan)[2]
        self.assertGreater(widths[0], GREATEST)
        self.good(read("\n".join(rows).replace("j+1", "j-1")), plan)

    def test_six_sweeps_of_three_loops(self):
        program = read("size 9\nfor i 0 5\nfor j i 5\nfor k 0 j\na[i][j][k] = a[i-1][j-1][k-1]+a[i][j-1][k]\nend\nend\nend")
        pairs = ((0, 0), (1, 0), (2, 0)) * 2
        item = deed(0, *pairs)
        for level in reversed(range(6)):
            item = sweep(item, cut=level < 3)
        self.good(program, (item,))
        self.bad(program, (sweep(*item[3], cut=True, way="down"),))

    def test_six_deeds_of_forty_parts(self):
        row = "a[i][j] = " + "+".join(f"a[i-{n + 1}][j+{n % 3}]" for n in range(40))
        program = read("\n".join(["size 97", "for i 0 99", "for j 0 i"] + [row] * 6 + ["end"] * 2))
        self.good(program, own_plan(program))
        self.bad(program, (sweep(*[sweep(deed(k, (0, 0), (1, 0))) for k in (0, 1, 2, 3, 5, 4)]),))

    def test_the_own_plan_is_good(self):
        chance = random.Random(27)
        for lap in range(150):
            program = some_program(chance)
            self.good(program, own_plan(program))
        for program in (STEP, APART, MIXED):
            self.good(program, own_plan(program))

    def test_plans_by_chance_against_all_turns(self):
        chance = random.Random(28)
        seen = {True: 0, False: 0}
        for lap in range(250):
            program = some_program(chance, 20)
            plan = some_plan(chance, program)
            good = not self.has_fault(program, plan)
            seen[good] += 1
            (self.good if good else self.bad)(program, plan)
        self.assertGreater(min(seen.values()), 60)

    def has_fault(self, program, plan):
        found = ends_by_hand(program, plan)
        for one, other in itertools.combinations(turns(program, 100), 2):
            if touch_alike(program, one, other):
                if any(order_by_hand(plan, found, widths, one, other) != -1 for widths in width_choices(found)):
                    return True
        return False


class NoFit(unittest.TestCase):
    def no_plan(self, program, *plan):
        with self.assertRaises(NoPlan) as caught:
            looked(program, plan)
        self.assertIsInstance(caught.exception, FurrowError)

    def test_no_deed_or_one_too_many(self):
        self.no_plan(STEP)
        self.no_plan(STEP, sweep(deed(0, (0, 0))), sweep(deed(0, (0, 0))))
        self.no_plan(STEP, sweep(deed(0, (0, 0)), deed(1, (0, 0))))
        for k in (1, -1, 10 ** 30):
            self.no_plan(STEP, sweep(deed(k, (0, 0))))
        self.no_plan(MIXED, *own_plan(STEP))
        self.no_plan(STEP, *own_plan(MIXED))

    def test_pairs_that_lack_or_are_too_many(self):
        self.no_plan(STEP, deed(0))
        self.no_plan(STEP, sweep(deed(0)))
        self.no_plan(STEP, sweep(deed(0, (0, 0), (0, 0))))
        self.no_plan(STEP, cut(deed(0, (0, 0))))
        self.no_plan(STEP, sweep(sweep(deed(0, (0, 0), (0, 0)))))
        items = deed(0, *[(0, 0)] * 7)
        for n in range(7):
            items = cut(items) if n else sweep(items)
        self.no_plan(STEP, items)

    def test_loops_and_shifts_out_of_their_bounds(self):
        for pair in ((1, 0), (-1, 0), (0, SHIFT + 1), (0, -SHIFT - 1)):
            self.no_plan(STEP, sweep(deed(0, pair)))
            self.no_plan(STEP, cut(sweep(deed(0, pair, (0, 0)))))

    def test_a_sweep_without_an_item(self):
        for bare in (sweep(), cut(), cut(sweep(cut()))):
            self.no_plan(STEP, sweep(deed(0, (0, 0))), bare)
            self.no_plan(STEP, sweep(deed(0, (0, 0)), bare, way="down"))

    def test_it_goes_ahead_of_a_bad_one(self):
        self.no_plan(STEP, sweep(deed(0, (0, SHIFT + 1)), way="down"))
        self.no_plan(STEP, sweep(deed(0, (0, 0)), way="down"), sweep())

    def test_twenty_deep(self):
        items = deed(0, *[(0, 0)] * 20)
        for n in range(20):
            items = cut(items) if n else sweep(items)
        self.no_plan(STEP, items)


class NothingIsKept(unittest.TestCase):
    GOOD = (sweep(deed(0, (0, 0))),)
    BAD = (cut(sweep(deed(0, (0, 0), (0, 5)), way="any"), way="down"),)

    def test_asked_twice_and_with_others_between(self):
        first = [looked(STEP, self.GOOD), looked(STEP, self.BAD), looked(APART, self.BAD)]
        with self.assertRaises(NoPlan):
            looked(MIXED, self.GOOD)
        self.assertEqual([looked(APART, self.BAD), looked(STEP, self.BAD), looked(STEP, self.GOOD)], first[::-1])

    def test_what_is_handed_in_is_not_changed(self):
        plans, deeds = copy.deepcopy((self.GOOD, self.BAD)), list(STEP.deeds)
        fields = [dict(vars(one)) for one in deeds]
        looked(STEP, self.GOOD)
        looked(STEP, self.BAD)
        self.assertEqual((self.GOOD, self.BAD), plans)
        self.assertEqual(STEP.deeds, deeds)
        self.assertEqual([vars(one) for one in deeds], fields)

    def test_what_is_told_is_the_askers_own(self):
        kept = copy.deepcopy(looked(STEP, self.GOOD))
        told = looked(STEP, self.GOOD)
        told[1][0][7].clear()
        told[1].pop()
        self.assertEqual(looked(STEP, self.GOOD), kept)
        kept = copy.deepcopy(looked(STEP, self.BAD))
        looked(STEP, self.BAD)[3].append(7)
        self.assertEqual(looked(STEP, self.BAD), kept)

    def test_no_two_rings_are_one_list(self):
        rings = [told[7] for told in looked(APART, (sweep(deed(0, (0, 0)), way="any"),))[1]]
        rings += [told[7] for told in looked(STEP, self.GOOD)[1]]
        self.assertEqual(len({id(ring) for ring in rings}), len(rings))

    def test_a_deed_taken_out_and_the_program_asked_as_it_then_is(self):
        program = read("size 97\nfor i 0 9\na[i] = a[i-1]\nb[i] = 1\nend")
        plan = (sweep(deed(0, (0, 0)), way="down"), sweep(deed(1, (0, 0)), way="down"))
        told = looked(program, plan)
        self.assertEqual(told[0], "bad")
        kept = copy.deepcopy(told)
        program.deeds.pop(0)
        with self.assertRaises(NoPlan):
            looked(program, plan)
        self.assertEqual(looked(program, plan[:1])[0], "good")
        self.assertEqual(told, kept)

    def test_the_list_that_was_handed_in_is_changed_behind(self):
        deeds = list(STEP.deeds)
        program = Program(97, deeds)
        deeds.pop()
        self.assertEqual(looked(program, self.GOOD), looked(STEP, self.GOOD))


if __name__ == "__main__":
    unittest.main()
