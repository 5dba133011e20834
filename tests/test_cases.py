"""Points 25, 26 and 2: the sides of two deeds in a plan, and the bonds of a side."""

import copy
import itertools
import random
import unittest

from furrow.cases import side_bonds, sides
from furrow.deeds import Program
from furrow.plain import turns
from furrow.plans import own_plan
from furrow.reader import read
from tests.helper import (cut, deed, ends_by_hand, holds, order_by_hand, some_plan, some_program, sweep,
                          width_choices)

GREATEST = 10 ** 18 - 1
SHIFT = 10 ** 18

# Deed 0 in i and j, deed 1 in i, deed 2 in no loop, deed 3 in another i.
MIXED = read("size 97\nfor i 0 9\nfor j i 5\na[i] = 1\nend\na[i] = 2\nend\na[0] = 3\nfor i 20 29\na[i] = 4\nend")
NESTS = read("size 97\nfor i 0 9\nfor j 0 9\nfor k 0 9\na[i] = 1\nb[i] = 2\nend\nend\nend")
SIDES_OF = {"up": ["more"], "down": ["less"], "any": ["less", "more"]}


def nest(ways, *items, cuts=()):
    """The items in sweeps of these ways, from outside; cut are those whose numbers are told."""
    for level in reversed(range(len(ways))):
        items = (sweep(*items, cut=level in cuts, way=ways[level]),)
    return items


class Sides(unittest.TestCase):
    def told(self, program, plan, k, l):
        found = sides(program, plan, k, l)
        self.assertIs(type(found), list)
        for side in found:
            self.assertEqual((type(side), [type(part) for part in side]), (tuple, [int, str]))
        return found

    def test_each_way(self):
        pairs = ((0, 0), (1, 0), (2, 0))
        for ways in itertools.product(SIDES_OF, repeat=3):
            expected = [(level, side) for level, way in enumerate(ways) for side in SIDES_OF[way]]
            plan = nest(ways, deed(0, *pairs), deed(1, *pairs))
            for k, l in ((0, 0), (0, 1), (1, 1)):
                self.assertEqual(self.told(NESTS, plan, k, l), expected)
            self.assertEqual(self.told(NESTS, plan, 1, 0), expected + [(3, "text")])

    def test_cut_sweeps_count_as_whole_ones(self):
        pairs = ((0, 0), (0, 0), (1, 0), (1, 0), (2, 0), (2, 0))
        ways = ("any", "up", "down", "any", "up", "down")
        expected = [(0, "less"), (0, "more"), (1, "more"), (2, "less"), (3, "less"), (3, "more"), (4, "more"),
                    (5, "less")]
        for cuts in ((0, 2, 4), (1, 3, 5), (0, 3, 4)):
            plan = nest(ways, deed(1, *pairs), deed(0, *pairs), cuts=cuts)
            self.assertEqual(self.told(NESTS, plan, 1, 0), expected)
            self.assertEqual(self.told(NESTS, plan, 0, 1), expected + [(6, "text")])

    def test_the_text_goes_by_the_plan_not_by_the_numbers(self):
        pairs = ((0, 0), (1, 0), (2, 0))
        plan = nest(("up", "up", "up"), deed(1, *pairs), deed(0, *pairs))
        more = [(0, "more"), (1, "more"), (2, "more")]
        self.assertEqual(self.told(NESTS, plan, 0, 1), more + [(3, "text")])
        self.assertEqual(self.told(NESTS, plan, 1, 0), more)
        for k in (0, 1):
            self.assertEqual(self.told(NESTS, plan, k, k), more)

    def test_the_own_plan(self):
        plan = own_plan(MIXED)
        self.assertEqual(self.told(MIXED, plan, 0, 0), [(0, "more"), (1, "more")])
        self.assertEqual(self.told(MIXED, plan, 0, 1), [(0, "more")])
        self.assertEqual(self.told(MIXED, plan, 1, 0), [(0, "more"), (1, "text")])
        self.assertEqual(self.told(MIXED, plan, 2, 2), [])
        for k, l in itertools.combinations(range(4), 2):
            if (k, l) != (0, 1):
                self.assertEqual(self.told(MIXED, plan, k, l), [])
                self.assertEqual(self.told(MIXED, plan, l, k), [(0, "text")])

    def test_sweeps_round_one_of_them_only(self):
        plan = (sweep(deed(3, (0, 0)), sweep(deed(0, (1, 0), (0, 0)), way="any"), way="down"), deed(2),
                sweep(deed(1, (0, 0)), way="any"))
        self.assertEqual(self.told(MIXED, plan, 0, 3), [(0, "less"), (1, "text")])
        self.assertEqual(self.told(MIXED, plan, 3, 0), [(0, "less")])
        self.assertEqual(self.told(MIXED, plan, 0, 0), [(0, "less"), (1, "less"), (1, "more")])
        self.assertEqual(self.told(MIXED, plan, 1, 3), [(0, "text")])
        self.assertEqual(self.told(MIXED, plan, 3, 1), [])
        self.assertEqual(self.told(MIXED, plan, 1, 1), [(0, "less"), (0, "more")])

    def test_like_numbers_behind_unlike_ones(self):
        # Both deeds are the first item of a sweep, but not of the same one.
        program = read("size 9\nfor i 0 1\nfor j 0 1\na[0] = 1\nend\nfor j 0 1\na[0] = 1\nend\nend")
        plan = (sweep(sweep(deed(0, (0, 0), (1, 0))), sweep(deed(1, (0, 0), (1, 0)))),)
        self.assertEqual(self.told(program, plan, 0, 1), [(0, "more")])
        self.assertEqual(self.told(program, plan, 1, 0), [(0, "more"), (1, "text")])


class SideBonds(unittest.TestCase):
    def told(self, program, plan, k, l, level, side):
        found = side_bonds(program, plan, k, l, level, side)
        self.assertIs(type(found), list)
        for bond in found:
            self.assertEqual((type(bond), [type(part) for part in bond]), (tuple, [int, int, int]))
        return found

    def test_at_the_first_level(self):
        for way in ("up", "down", "any"):
            plan = (sweep(sweep(deed(0, (1, 5), (0, 0))), deed(1, (0, 7)), way=way),)
            # Deed 0 ahead: its loops are 1 and 2, that of deed 1 is 3.
            self.assertEqual(self.told(MIXED, plan, 0, 1, 0, "more"), [(3, 2, -3)])
            self.assertEqual(self.told(MIXED, plan, 0, 1, 0, "less"), [(2, 3, 1)])
            # Deed 1 ahead: its loop is 1, those of deed 0 are 2 and 3.
            self.assertEqual(self.told(MIXED, plan, 1, 0, 0, "more"), [(3, 1, 1)])
            self.assertEqual(self.told(MIXED, plan, 1, 0, 0, "less"), [(1, 3, -3)])

    def test_a_deed_and_itself(self):
        plan = (sweep(sweep(deed(0, (1, 5), (0, 9)))),)
        self.assertEqual(self.told(MIXED, plan, 0, 0, 0, "more"), [(4, 2, -1)])
        self.assertEqual(self.told(MIXED, plan, 0, 0, 0, "less"), [(2, 4, -1)])
        self.assertEqual(self.told(MIXED, plan, 0, 0, 1, "more"), [(2, 4, 0), (4, 2, 0), (3, 1, -1)])
        self.assertEqual(self.told(MIXED, plan, 0, 0, 1, "less"), [(2, 4, 0), (4, 2, 0), (1, 3, -1)])

    def test_whole_sweeps_ahead_of_the_level(self):
        plan = nest(("up", "any", "down"), deed(1, (1, 10), (2, 20), (0, 30)), deed(0, (0, 1), (1, 2), (2, 3)))
        # Deed 0 ahead: its loops are 1 2 3, those of deed 1 are 4 5 6.
        first = [(1, 5, 9), (5, 1, -9)]
        second = first + [(2, 6, 18), (6, 2, -18)]
        third = second + [(3, 4, 27), (4, 3, -27)]
        self.assertEqual(self.told(NESTS, plan, 0, 1, 0, "more"), [(5, 1, -10)])
        self.assertEqual(self.told(NESTS, plan, 0, 1, 1, "less"), first + [(2, 6, 17)])
        self.assertEqual(self.told(NESTS, plan, 0, 1, 1, "more"), first + [(6, 2, -19)])
        self.assertEqual(self.told(NESTS, plan, 0, 1, 2, "less"), second + [(3, 4, 26)])
        self.assertEqual(self.told(NESTS, plan, 0, 1, 3, "text"), third)
        self.assertEqual(self.told(NESTS, plan, 1, 0, 2, "less"),
                         [(2, 4, -9), (4, 2, 9), (3, 5, -18), (5, 3, 18), (1, 6, -28)])

    def test_cut_sweeps_ahead_of_the_level_give_none(self):
        pairs = ((0, 1), (0, 2), (1, 3), (1, 4), (2, 5), (2, 6))
        others = tuple((loop, 3 * shift) for loop, shift in pairs)
        plan = nest(("up",) * 6, deed(1, *others), deed(0, *pairs), cuts=(0, 2, 4))
        i, j = [(1, 4, 4), (4, 1, -4)], [(2, 5, 8), (5, 2, -8)]
        expected = ([(4, 1, -3)], [(4, 1, -5)], i + [(5, 2, -7)], i + [(5, 2, -9)],
                    i + j + [(6, 3, -11)], i + j + [(6, 3, -13)])
        for level in range(6):
            self.assertEqual(self.told(NESTS, plan, 0, 1, level, "more"), expected[level])
        self.assertEqual(self.told(NESTS, plan, 0, 1, 6, "text"), i + j + [(3, 6, 12), (6, 3, -12)])
        plan = nest(("up",) * 6, deed(1, *others), deed(0, *pairs), cuts=(1, 3, 5))
        self.assertEqual(self.told(NESTS, plan, 0, 1, 5, "less"),
                         [(1, 4, 2), (4, 1, -2), (2, 5, 6), (5, 2, -6), (3, 6, 10), (6, 3, -10), (3, 6, 11)])

    def test_the_text_without_a_sweep(self):
        for k, l in ((2, 0), (2, 1), (3, 0), (3, 2)):
            self.assertEqual(self.told(MIXED, own_plan(MIXED), k, l, 0, "text"), [])

    def test_shifts_at_their_bounds(self):
        plan = (sweep(deed(1, (0, SHIFT)), deed(3, (0, -SHIFT))), deed(2), sweep(sweep(deed(0, (0, 0), (1, 0)))))
        self.assertEqual(self.told(MIXED, plan, 1, 3, 0, "more"), [(2, 1, 2 * SHIFT - 1)])
        self.assertEqual(self.told(MIXED, plan, 1, 3, 0, "less"), [(1, 2, -2 * SHIFT - 1)])
        self.assertEqual(self.told(MIXED, plan, 3, 1, 1, "text"), [(1, 2, 2 * SHIFT), (2, 1, -2 * SHIFT)])

    def test_a_side_holds_just_where_widths_can_bring_it(self):
        chance = random.Random(25)
        seen = {True: 0, False: 0}
        for lap in range(120):
            program = some_program(chance, 16)
            plan = some_plan(chance, program)
            found = ends_by_hand(program, plan)
            for one, other in itertools.permutations(turns(program, 100), 2):
                values = [0, *one[1], *other[1]]
                held = any(holds(side_bonds(program, plan, one[0], other[0], level, side), values)
                           for level, side in sides(program, plan, one[0], other[0]))
                behind = any(order_by_hand(plan, found, widths, one, other) != -1
                             for widths in width_choices(found))
                seen[held] += 1
                self.assertEqual(held, behind)
        self.assertGreater(min(seen.values()), 1000)


class NothingIsKept(unittest.TestCase):
    PLAN = (cut(sweep(deed(1, (0, 3), (0, 4)), sweep(deed(0, (0, 0), (0, 0), (1, 0))), way="any"), way="down"),
            deed(2), sweep(deed(3, (0, 0))))

    def questions(self, program):
        return [lambda: sides(program, self.PLAN, 0, 1), lambda: sides(program, self.PLAN, 1, 0),
                lambda: side_bonds(program, self.PLAN, 0, 1, 1, "more"),
                lambda: side_bonds(program, self.PLAN, 0, 1, 2, "text")]

    def test_asked_twice_and_with_others_between(self):
        first = [question() for question in self.questions(MIXED)]
        sides(NESTS, own_plan(NESTS), 0, 1)
        again = [question() for question in reversed(self.questions(MIXED))]
        self.assertEqual(first, again[::-1])

    def test_what_is_handed_in_is_not_changed(self):
        plan, deeds = copy.deepcopy(self.PLAN), list(MIXED.deeds)
        fields = [dict(vars(one)) for one in deeds]
        for question in self.questions(MIXED):
            question()
        self.assertEqual(self.PLAN, plan)
        self.assertEqual(MIXED.deeds, deeds)
        self.assertEqual([vars(one) for one in deeds], fields)

    def test_a_told_list_is_the_askers_own(self):
        for question in self.questions(MIXED):
            told = question()
            kept = list(told)
            told.clear()
            self.assertEqual(question(), kept)

    def test_a_deed_taken_out_and_the_program_asked_as_it_then_is(self):
        program = Program(97, MIXED.deeds)
        program.deeds.pop(0)
        plan = (sweep(deed(2, (0, 1)), deed(0, (0, 3))), deed(1))
        self.assertEqual(sides(program, plan, 0, 2), [(0, "more"), (1, "text")])
        self.assertEqual(side_bonds(program, plan, 0, 2, 0, "more"), [(2, 1, 1)])


if __name__ == "__main__":
    unittest.main()
