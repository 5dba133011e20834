"""Points 23, 24 and 2: the ends of cut sweeps, and the order in which a plan does two turns."""

import copy
import itertools
import random
import unittest

from furrow.deeds import Program
from furrow.plain import turns
from furrow.plans import own_plan
from furrow.reader import read
from furrow.times import ends, order_of
from tests.helper import cut, deed, ends_by_hand, order_by_hand, some_plan, some_program, sweep, width_choices

GREATEST = 10 ** 18 - 1
SHIFT = 10 ** 18

ONE = read("size 97\nfor i 2 9\na[i] = 1\nend")
# Deed 0 in i and j, deed 1 in i, deed 2 in no loop, deed 3 in another i.
MIXED = read("size 97\nfor i 0 9\nfor j i 5\na[i] = 1\nend\na[i] = 2\nend\na[0] = 3\nfor i 20 29\na[i] = 4\nend")


class Ends(unittest.TestCase):
    def told(self, program, *plan):
        found = ends(program, plan)
        self.assertIs(type(found), list)
        for pair in found:
            self.assertEqual((type(pair), [type(end) for end in pair]), (tuple, [int, int]))
        return found

    def test_no_cut_sweep(self):
        self.assertEqual(ends(ONE, own_plan(ONE)), [])
        self.assertEqual(ends(MIXED, own_plan(MIXED)), [])
        self.assertEqual(self.told(read("size 9\na[0] = 1"), deed(0)), [])

    def test_one_deed(self):
        self.assertEqual(self.told(ONE, cut(sweep(deed(0, (0, 0), (0, 0))))), [(2, 9)])
        self.assertEqual(self.told(ONE, sweep(cut(deed(0, (0, 0), (0, 0))))), [(2, 9)])

    def test_the_shift_of_this_sweep_and_no_other(self):
        self.assertEqual(self.told(ONE, cut(sweep(deed(0, (0, -5), (0, 100))))), [(-3, 4)])
        self.assertEqual(self.told(ONE, sweep(cut(deed(0, (0, -5), (0, 100))))), [(102, 109)])

    def test_the_way_changes_nothing(self):
        for way in ("up", "down", "any"):
            self.assertEqual(self.told(ONE, cut(sweep(deed(0, (0, 0), (0, 0))), way=way)), [(2, 9)])

    def test_one_turn_alone(self):
        self.assertEqual(self.told(read("size 9\nfor i 4 4\na[i] = 1\nend"), cut(sweep(deed(0, (0, 3), (0, 0))))),
                         [(7, 7)])

    def test_each_cut_sweep_in_the_order_of_the_plan(self):
        plan = (cut(sweep(cut(deed(3, (0, 1), (0, 0), (0, 2))))), deed(2),
                sweep(deed(1, (0, 0)), cut(cut(sweep(deed(0, (0, 0), (1, 100), (0, 200), (1, 0)))))))
        self.assertEqual(self.told(MIXED, *plan), [(21, 30), (22, 31), (100, 105), (200, 205)])

    def test_all_deeds_within_at_any_depth(self):
        inner = sweep(sweep(deed(0, (1, 7), (0, 0), (1, 0))))
        self.assertEqual(self.told(MIXED, cut(inner, sweep(deed(1, (0, -50), (0, 0)))), deed(2),
                                   sweep(deed(3, (0, 0)))), [(-50, 12)])
        self.assertEqual(self.told(MIXED, deed(2), cut(inner, sweep(deed(3, (0, 0), (0, 0)))),
                                   sweep(deed(1, (0, 0)))), [(7, 29)])

    def test_bounds_by_loops_farther_out(self):
        # Where j has no value, i has no turn of the deed.
        for loop, pair in ((0, (0, 5)), (1, (0, 5))):
            plan = (cut(sweep(sweep(deed(0, (loop, 0), (0, 0), (1, 0))))), sweep(deed(1, (0, 0))), deed(2),
                    sweep(deed(3, (0, 0))))
            self.assertEqual(self.told(MIXED, *plan), [pair])
        text = "size 9\nfor i 0 9\nfor j i+2 7\nfor k i+1 j-3\na[0] = 1\nend\nend\nend"
        for loop, pair in ((0, (0, 3)), (1, (4, 7)), (2, (1, 4))):
            self.assertEqual(self.told(read(text), cut(sweep(sweep(sweep(deed(0, (loop, 0), (0, 0), (1, 0), (2, 0))))))),
                             [pair])

    def test_deeds_that_have_no_turns(self):
        for bounds in ("5 4", "0 -1", f"{GREATEST} -{GREATEST}"):
            none = read(f"size 9\nfor i {bounds}\na[0] = 1\nend")
            self.assertEqual(self.told(none, cut(sweep(deed(0, (0, 9), (0, 0))))), [(0, 0)])
        none = read("size 9\nfor i 3 9\nfor j i 2\na[0] = 1\nend\nend")
        for loop in (0, 1):
            self.assertEqual(self.told(none, cut(sweep(sweep(deed(0, (loop, 9), (0, 0), (1, 0)))))), [(0, 0)])

    def test_a_deed_without_turns_beside_one_with(self):
        program = read("size 9\nfor i 5 4\na[0] = 1\nend\nfor i 7 8\na[0] = 1\nend")
        for items in ((deed(0, (0, -90), (0, 0)), deed(1, (0, 2), (0, 0))),
                      (deed(1, (0, 2), (0, 0)), deed(0, (0, 90), (0, 0)))):
            self.assertEqual(self.told(program, cut(sweep(*items))), [(9, 10)])
        self.assertEqual(self.told(program, cut(sweep(deed(0, (0, 3), (0, 0)))), cut(sweep(deed(1, (0, 3), (0, 0))))),
                         [(0, 0), (10, 11)])

    def test_an_outer_loop_has_turns_where_the_inner_has_none(self):
        program = read("size 9\nfor i 1 9\na[0] = 1\nfor j 3 2\na[0] = 1\nend\nend")
        plan = (cut(sweep(deed(0, (0, 0), (0, 0)), sweep(deed(1, (0, 50), (0, 0), (1, 0))))),)
        self.assertEqual(self.told(program, *plan), [(1, 9)])
        plan = (sweep(deed(0, (0, 0)), cut(sweep(deed(1, (0, 0), (0, 50), (1, 0))))),)
        self.assertEqual(self.told(program, *plan), [(0, 0)])

    def test_numbers_that_can_not_be_gone_through(self):
        text = f"size 9\nfor i -{GREATEST} {GREATEST}\na[i] = 1\nend"
        self.assertEqual(self.told(read(text), cut(sweep(deed(0, (0, 0), (0, 0))))), [(-GREATEST, GREATEST)])
        for shift in (SHIFT, -SHIFT):
            self.assertEqual(self.told(read(text), cut(sweep(deed(0, (0, shift), (0, 0))))),
                             [(shift - GREATEST, shift + GREATEST)])
        text = (f"size 9\nfor i -{GREATEST} {GREATEST}\nfor j i-{GREATEST} i+{GREATEST}\n"
                f"for k j-{GREATEST} j+{GREATEST}\na[i] = 1\nend\nend\nend")
        for loop in range(3):
            far = (loop + 1) * GREATEST
            plan = cut(sweep(sweep(sweep(deed(0, (loop, SHIFT), (0, 0), (1, 0), (2, 0))))))
            self.assertEqual(self.told(read(text), plan), [(SHIFT - far, SHIFT + far)])

    def test_great_numbers_with_bounds_by_loops_farther_out(self):
        text = f"size 9\nfor i -{GREATEST} {GREATEST}\nfor j i+{GREATEST} 5\na[i] = 1\nend\nend"
        for loop, pair in ((0, (-GREATEST, 5 - GREATEST)), (1, (0, 5))):
            self.assertEqual(self.told(read(text), cut(sweep(sweep(deed(0, (loop, 0), (0, 0), (1, 0)))))), [pair])

    def test_plans_by_chance_against_all_turns(self):
        chance = random.Random(21)
        seen = 0
        for lap in range(300):
            program = some_program(chance)
            plan = some_plan(chance, program, far=9)
            expected = ends_by_hand(program, plan)
            seen += len(expected)
            self.assertEqual(self.told(program, *plan), expected)
        self.assertGreater(seen, 200)


class OrderOf(unittest.TestCase):
    def ordered(self, expected, program, plan, widths, one, other):
        self.assertIs(type(order_of(program, plan, widths, one, other)), int)
        self.assertEqual(order_of(program, plan, widths, one, other), expected)
        self.assertEqual(order_of(program, plan, widths, other, one), -expected)

    def test_a_whole_sweep_of_each_way(self):
        for way, expected in (("up", -1), ("down", 1), ("any", 0)):
            plan = (sweep(deed(0, (0, 0)), way=way),)
            for one, other in ((2, 3), (2, 9), (8, 9)):
                self.ordered(expected, ONE, plan, [], (0, (one,)), (0, (other,)))

    def test_a_cut_sweep_of_each_way_by_its_width(self):
        for way, expected in (("up", -1), ("down", 1), ("any", 0)):
            for inner, behind in (("up", -1), ("down", 1), ("any", 0)):
                plan = (cut(sweep(deed(0, (0, 0), (0, 0)), way=inner), way=way),)
                # By width 3, from the least end 2 on: 2 3 4, 5 6 7, 8 9.
                for one, other, apart in ((2, 4, False), (4, 5, True), (5, 7, False), (7, 8, True), (8, 9, False)):
                    self.ordered(expected if apart else behind, ONE, plan, [3], (0, (one,)), (0, (other,)))
                self.ordered(behind, ONE, plan, [8], (0, (2,)), (0, (9,)))
                self.ordered(expected, ONE, plan, [7], (0, (2,)), (0, (9,)))
                self.ordered(expected, ONE, plan, [1], (0, (8,)), (0, (9,)))
                self.ordered(behind, ONE, plan, [10 ** 40], (0, (2,)), (0, (9,)))

    def test_it_is_divided_from_the_least_end_on(self):
        program = read("size 9\nfor i -5 5\na[i] = 1\nend")
        for shift in (0, 1, -1, SHIFT, -SHIFT):
            plan = (cut(sweep(deed(0, (0, shift), (0, 0)), way="down")),)
            # By width 4: -5 to -2, -1 to 2, 3 to 5.
            for value in range(-5, 5):
                expected = -1 if value in (-2, 2) else 1
                self.ordered(expected, program, plan, [4], (0, (value,)), (0, (value + 1,)))

    def test_the_least_end_is_that_of_all_deeds_in_the_sweep(self):
        program = read("size 9\nfor i 0 9\na[i] = 1\nend\nfor i 3 9\na[i] = 1\nend")
        plan = (cut(sweep(deed(1, (0, 0), (0, 0)), way="down"), sweep(deed(0, (0, -1), (0, 0)), way="down")),)
        # From -1 on, by width 3: times -1 0 1, 2 3 4, 5 6 7, 8 9.
        for one, other, expected in ((3, 4, 1), (4, 5, -1), (7, 8, -1), (8, 9, 1)):
            self.ordered(expected, program, plan, [3], (1, (one,)), (1, (other,)))
        for value, expected in ((2, -1), (3, 1), (5, 1), (6, 1)):
            self.ordered(expected, program, plan, [3], (0, (value,)), (1, (4,)))

    def test_each_cut_sweep_by_its_own_width(self):
        program = read("size 9\nfor i 0 9\nfor j 0 9\na[i] = 1\nend\nend")
        plan = (cut(cut(sweep(sweep(deed(0, (0, 0), (1, 0), (1, 0), (0, 0)), way="down"), way="down"))),)
        self.ordered(-1, program, plan, [5, 2], (0, (4, 9)), (0, (5, 0)))
        self.ordered(1, program, plan, [6, 2], (0, (4, 9)), (0, (5, 0)))
        self.ordered(-1, program, plan, [6, 2], (0, (5, 1)), (0, (4, 2)))
        self.ordered(1, program, plan, [6, 3], (0, (5, 1)), (0, (4, 2)))

    def test_widths_are_of_cut_sweeps_in_the_order_of_the_plan(self):
        program = read("size 9\nfor i 0 9\na[i] = 1\nend\nfor i 0 9\na[i] = 1\nend")
        plan = (cut(sweep(deed(1, (0, 0), (0, 0)), way="down")), cut(sweep(deed(0, (0, 0), (0, 0)), way="down")))
        for k, widths, expected in ((1, [1, 9], -1), (0, [1, 9], 1), (1, [9, 1], 1), (0, [9, 1], -1)):
            self.ordered(expected, program, plan, widths, (k, (3,)), (k, (4,)))

    def test_times_not_values(self):
        program = read("size 9\nfor i 0 9\na[i] = 1\nb[i] = 1\nend")
        plan = (sweep(deed(0, (0, 0)), deed(1, (0, 3))),)
        self.ordered(-1, program, plan, [], (0, (4,)), (1, (2,)))
        self.ordered(1, program, plan, [], (0, (6,)), (1, (2,)))

    def test_the_text_where_times_are_alike(self):
        program = read("size 9\nfor i 0 9\na[i] = 1\nb[i] = 1\nend")
        for way in ("up", "down", "any"):
            self.ordered(-1, program, (sweep(deed(0, (0, 0)), deed(1, (0, 3)), way=way),), [], (0, (5,)), (1, (2,)))
            self.ordered(1, program, (sweep(deed(1, (0, 3)), deed(0, (0, 0)), way=way),), [], (0, (5,)), (1, (2,)))
            plan = (cut(sweep(deed(1, (0, 0), (0, 0))), sweep(deed(0, (0, 0), (0, 0))), way=way),)
            self.ordered(1, program, plan, [10], (0, (0,)), (1, (9,)))

    def test_the_text_where_no_sweep_is_round_both(self):
        plan = (sweep(deed(3, (0, 0))), deed(2), sweep(sweep(deed(0, (0, 0), (1, 0))), deed(1, (0, 0))))
        self.ordered(1, MIXED, plan, [], (2, ()), (3, (29,)))
        self.ordered(-1, MIXED, plan, [], (2, ()), (1, (0,)))
        self.ordered(-1, MIXED, plan, [], (3, (29,)), (0, (0, 0)))
        self.ordered(-1, MIXED, own_plan(MIXED), [], (0, (5, 5)), (2, ()))
        # A sweep that is round one of them only tells nothing.
        plan = (sweep(deed(1, (0, 0)), way="any"), sweep(deed(3, (0, 0)), way="any"),
                sweep(sweep(deed(0, (0, 0), (1, 0)))), deed(2))
        self.ordered(-1, MIXED, plan, [], (1, (9,)), (3, (20,)))

    def test_a_deed_behind_a_sweep_in_the_same_sweep(self):
        for items, expected in (((sweep(deed(0, (0, 0), (1, 0))), deed(1, (0, 0))), -1),
                                ((deed(1, (0, 0)), sweep(deed(0, (0, 0), (1, 0)))), 1)):
            plan = (sweep(*items, way="down"), deed(2), sweep(deed(3, (0, 0))))
            self.ordered(expected, MIXED, plan, [], (0, (3, 4)), (1, (3,)))
            self.ordered(1, MIXED, plan, [], (0, (3, 4)), (1, (4,)))

    def test_the_first_sweep_with_unlike_numbers_decides(self):
        program = read("size 9\nfor i 0 9\nfor j 0 9\na[i] = 1\nend\nend")
        for outer, inner in itertools.product(("up", "down", "any"), repeat=2):
            value = {"up": -1, "down": 1, "any": 0}
            plan = (sweep(sweep(deed(0, (0, 0), (1, 0)), way=inner), way=outer),)
            self.ordered(value[outer], program, plan, [], (0, (3, 9)), (0, (4, 0)))
            self.ordered(value[inner], program, plan, [], (0, (3, 4)), (0, (3, 9)))
            plan = (sweep(sweep(deed(0, (1, 0), (0, 0)), way=inner), way=outer),)
            self.ordered(value[outer], program, plan, [], (0, (9, 3)), (0, (0, 4)))

    def test_great_numbers(self):
        text = f"size 9\nfor i -{GREATEST} {GREATEST}\na[i] = 1\nend"
        plan = (cut(sweep(deed(0, (0, SHIFT), (0, -SHIFT)), way="down")),)
        span = 2 * GREATEST + 1
        first, last = (0, (-GREATEST,)), (0, (GREATEST,))
        self.ordered(1, read(text), plan, [span], first, last)
        self.ordered(-1, read(text), plan, [span - 1], first, last)
        # At width GREATEST the second stretch begins with the value 0.
        self.ordered(-1, read(text), plan, [GREATEST], (0, (-1,)), (0, (0,)))
        self.ordered(1, read(text), plan, [GREATEST], (0, (0,)), (0, (1,)))

    def test_plans_by_chance_against_point_24(self):
        chance = random.Random(22)
        seen = {-1: 0, 0: 0, 1: 0}
        for lap in range(150):
            program = some_program(chance, 20)
            plan = some_plan(chance, program)
            found = ends_by_hand(program, plan)
            widths = [chance.randint(1, 4) for pair in found]
            for one, other in itertools.permutations(turns(program, 100), 2):
                expected = order_by_hand(plan, found, widths, one, other)
                seen[expected] += 1
                self.assertEqual(order_of(program, plan, widths, one, other), expected)
        self.assertGreater(min(seen.values()), 1000)

    def test_the_own_plan_does_turns_as_the_plain_run(self):
        chance = random.Random(23)
        for lap in range(50):
            program = some_program(chance, 20)
            for one, other in itertools.combinations(turns(program, 100), 2):
                self.ordered(-1, program, own_plan(program), [], one, other)


class NothingIsKept(unittest.TestCase):
    PLAN = (cut(sweep(deed(3, (0, 1), (0, 0)))), deed(2),
            cut(sweep(deed(1, (0, 0), (0, 0)), sweep(deed(0, (0, 3), (0, 0), (1, 0))))))
    WIDTHS = [2, 3]
    PAIRS = (((0, (0, 1)), (1, (4,))), ((1, (4,)), (0, (0, 1))), ((3, (20,)), (3, (21,))), ((2, ()), (0, (5, 5))))

    def questions(self):
        asked = [lambda one=one, other=other: order_of(MIXED, self.PLAN, self.WIDTHS, one, other)
                 for one, other in self.PAIRS]
        return [lambda: ends(MIXED, self.PLAN), lambda: ends(ONE, (cut(sweep(deed(0, (0, 0), (0, 0)))),))] + asked

    def test_asked_twice_and_with_others_between(self):
        first = [question() for question in self.questions()]
        again = [question() for question in reversed(self.questions())]
        self.assertEqual(first, again[::-1])

    def test_what_is_handed_in_is_not_changed(self):
        plan, deeds = copy.deepcopy(self.PLAN), list(MIXED.deeds)
        fields = [dict(vars(one)) for one in deeds]
        for question in self.questions():
            question()
        self.assertEqual((self.PLAN, self.WIDTHS), (plan, [2, 3]))
        self.assertEqual(MIXED.deeds, deeds)
        self.assertEqual([vars(one) for one in deeds], fields)

    def test_a_told_list_is_the_askers_own(self):
        told = ends(MIXED, self.PLAN)
        told[0] = None
        told.pop()
        self.assertEqual(ends(MIXED, self.PLAN), [(21, 30), (0, 9)])

    def test_widths_changed_between(self):
        widths = [1]
        plan = (cut(sweep(deed(0, (0, 0), (0, 0)), way="down")),)
        self.assertEqual(order_of(ONE, plan, widths, (0, (2,)), (0, (3,))), -1)
        widths[0] = 2
        self.assertEqual(order_of(ONE, plan, widths, (0, (2,)), (0, (3,))), 1)

    def test_a_deed_taken_out_and_the_program_asked_as_it_then_is(self):
        program = Program(97, MIXED.deeds)
        plan = (cut(sweep(sweep(deed(0, (0, 3), (0, 0), (1, 0))), deed(1, (0, 0), (0, 0)))),
                sweep(deed(3, (0, 0))), deed(2))
        self.assertEqual(ends(program, plan), [(0, 9)])
        told = ends(program, plan)
        program.deeds.pop(1)
        plan = (cut(sweep(sweep(deed(0, (0, 3), (0, 0), (1, 0))))), sweep(deed(2, (0, 0))), deed(1))
        self.assertEqual(ends(program, plan), [(3, 8)])
        self.assertEqual(order_of(program, plan, [2], (2, (20,)), (1, ())), -1)
        self.assertEqual(order_of(program, plan, [2], (2, (21,)), (2, (20,))), 1)
        self.assertEqual(told, [(0, 9)])


if __name__ == "__main__":
    unittest.main()
