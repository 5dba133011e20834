"""Points 21, 22, 23, 30 and 2: plans that fit, a program's own plan, and what stands in a plan."""

import copy
import itertools
import random
import unittest

from furrow.deeds import Program
from furrow.plans import fits, own_plan, stand, sweeps_of
from furrow.reader import read
from tests.helper import cut, deed, sweep

SHIFT = 10 ** 18


def nest(many, more=""):
    """A program of one deed in so many loops."""
    loops = "".join(f"for {name} 0 9\n" for name in "ijkmn"[:many])
    return read("size 97\n" + loops + "a[0] = 1\n" + "end\n" * many + more)


NONE = nest(0)
ONE = nest(1)
TWO = nest(2)
THREE = nest(3)
# Deed 0 in i and j, deed 1 in i, deed 2 in no loop, deed 3 in another i.
MIXED = read("size 97\nfor i 0 9\nfor j 0 9\na[i] = 1\nend\na[i] = 2\nend\na[0] = 3\nfor i 0 9\na[i] = 4\nend")
MIXED_PLAN = (sweep(sweep(deed(0, (0, 0), (1, 0))), deed(1, (0, 0))), deed(2), sweep(deed(3, (0, 0))))


class Fits(unittest.TestCase):
    def fit(self, program, *plan):
        self.assertIs(fits(program, plan), True, plan)

    def no_fit(self, program, *plan):
        self.assertIs(fits(program, plan), False, plan)

    def test_one_deed(self):
        self.fit(NONE, deed(0))
        self.fit(ONE, sweep(deed(0, (0, 0))))
        self.fit(TWO, sweep(sweep(deed(0, (0, 0), (1, 0)))))
        self.fit(TWO, sweep(sweep(deed(0, (1, 0), (0, 0)))))
        for order in itertools.permutations(range(3)):
            self.fit(THREE, sweep(sweep(sweep(deed(0, *((loop, 7) for loop in order))))))

    def test_each_cut_and_way(self):
        for way in ("up", "down", "any"):
            self.fit(ONE, sweep(deed(0, (0, 0)), way=way))
            self.fit(ONE, cut(sweep(deed(0, (0, 0), (0, 0)), way=way), way=way))

    def test_no_plan_at_all(self):
        for program in (NONE, ONE, MIXED):
            self.no_fit(program)

    def test_several_deeds(self):
        self.assertIs(fits(MIXED, MIXED_PLAN), True)
        self.fit(MIXED, deed(2), *MIXED_PLAN[::-2])
        self.fit(MIXED, sweep(deed(3, (0, 5)), sweep(deed(0, (1, -5), (0, 0))), deed(1, (0, 0))), deed(2))
        self.fit(MIXED, cut(sweep(deed(1, (0, 1), (0, 2)), deed(3, (0, 3), (0, 4)))),
                 sweep(sweep(deed(0, (0, 0), (1, 0)))), deed(2))

    def test_a_deed_that_lacks(self):
        for n in range(3):
            self.no_fit(MIXED, *(MIXED_PLAN[:n] + MIXED_PLAN[n + 1:]))
        self.no_fit(MIXED, sweep(sweep(deed(0, (0, 0), (1, 0)))), *MIXED_PLAN[1:])

    def test_a_deed_that_stands_twice(self):
        for n in range(3):
            self.no_fit(MIXED, *(MIXED_PLAN + MIXED_PLAN[n:n + 1]))
        self.no_fit(NONE, deed(0), deed(0))
        self.no_fit(ONE, sweep(deed(0, (0, 0)), deed(0, (0, 1))))
        # As many as there are deeds, one of them twice.
        self.no_fit(nest(0, "b[0] = 1"), deed(1), deed(1))

    def test_a_deed_that_the_program_has_not(self):
        for k in (1, -1, 2, 10 ** 30, -10 ** 30):
            self.no_fit(NONE, deed(k))
            self.no_fit(NONE, deed(0), deed(k))
            self.no_fit(ONE, sweep(deed(k, (0, 0))))
        for k in (-1, -4, 4, 5):
            self.no_fit(MIXED, *MIXED_PLAN[:2], sweep(deed(k, (0, 0))))
            self.no_fit(MIXED, *MIXED_PLAN, sweep(deed(k, (0, 0))))

    def test_the_number_of_pairs(self):
        self.no_fit(NONE, deed(0, (0, 0)))
        self.no_fit(ONE, sweep(deed(0)))
        self.no_fit(ONE, sweep(deed(0, (0, 0), (0, 0))))
        self.no_fit(ONE, deed(0, (0, 0)))
        self.no_fit(ONE, cut(sweep(deed(0, (0, 0)))))
        self.no_fit(ONE, sweep(cut(deed(0, (0, 0)))))
        self.no_fit(TWO, sweep(deed(0, (0, 0), (1, 0))))
        self.no_fit(TWO, sweep(sweep(deed(0, (0, 0)))))
        self.no_fit(TWO, sweep(sweep(sweep(deed(0, (0, 0), (1, 0))))))

    def test_a_deed_in_no_loop_has_no_sweep_round_it(self):
        for wrong in (sweep(deed(0)), cut(deed(0)), sweep(deed(0, (0, 0))), cut(deed(0, (0, 0)))):
            self.no_fit(NONE, wrong)
        self.no_fit(MIXED, MIXED_PLAN[0], sweep(deed(2), deed(3, (0, 0))))
        self.no_fit(MIXED, MIXED_PLAN[0], sweep(deed(2, (0, 0)), deed(3, (0, 0))))

    def test_six_pairs_and_seven(self):
        for cuts in range(5):
            items = deed(0, *[(0, 0)] * (cuts + 1))
            for n in range(cuts):
                items = cut(items)
            self.fit(ONE, sweep(items))
        inner = deed(0, (0, 0), (1, 0), (2, 0), (0, 1), (1, 1), (2, 1))
        self.fit(THREE, cut(cut(cut(sweep(sweep(sweep(inner)))))))
        for many, fitting in ((5, True), (6, False), (19, False)):
            items = deed(0, *[(0, 0)] * (many + 1))
            for n in range(many):
                items = cut(items)
            self.assertIs(fits(ONE, (sweep(items),)), fitting)
        inner = deed(0, (0, 0), (1, 0), (2, 0), (0, 1), (1, 1), (2, 1), (2, 2))
        self.no_fit(THREE, cut(cut(cut(sweep(sweep(sweep(cut(inner))))))))

    def test_sweeps_twenty_deep(self):
        for many in (1, 2, 6, 20):
            items = deed(0, *[(0, 0)] * many)
            for n in range(20):
                items = sweep(items) if n == 0 else cut(items)
            self.no_fit(ONE, items)
            self.no_fit(NONE, items)
        items = ()
        for n in range(20):
            items = (("sweep", n % 2 == 0, "any", items),)
        self.no_fit(ONE, sweep(deed(0, (0, 0))), *items)

    def test_numbers_of_loops(self):
        for loop in (-1, 1, -2, 2, 10 ** 30, -10 ** 30):
            self.no_fit(ONE, sweep(deed(0, (loop, 0))))
            self.no_fit(ONE, cut(sweep(deed(0, (loop, 0), (0, 0)))))
            self.no_fit(ONE, sweep(cut(deed(0, (0, 0), (loop, 0)))))
        self.no_fit(TWO, sweep(sweep(deed(0, (0, 0), (2, 0)))))
        self.no_fit(TWO, sweep(sweep(deed(0, (0, 0), (-1, 0)))))
        self.no_fit(THREE, sweep(sweep(sweep(deed(0, (0, 0), (1, 0), (3, 0))))))
        # The loops of the deed, not of another one.
        self.no_fit(MIXED, sweep(sweep(deed(0, (0, 0), (1, 0))), deed(1, (1, 0))), *MIXED_PLAN[1:])

    def test_a_loop_that_stands_in_no_whole_sweep(self):
        self.no_fit(ONE, deed(0))
        self.no_fit(ONE, cut(deed(0, (0, 0))))
        self.no_fit(TWO, sweep(deed(0, (0, 0))))
        self.no_fit(TWO, sweep(cut(deed(0, (0, 0), (1, 0)))))
        self.no_fit(TWO, cut(sweep(cut(deed(0, (1, 0), (0, 0), (1, 0))))))
        self.no_fit(THREE, sweep(sweep(deed(0, (0, 0), (2, 0)))))

    def test_a_loop_that_stands_in_two_whole_sweeps(self):
        self.no_fit(ONE, sweep(sweep(deed(0, (0, 0), (0, 0)))))
        self.no_fit(TWO, sweep(sweep(deed(0, (0, 0), (0, 0)))))
        self.no_fit(TWO, sweep(sweep(sweep(deed(0, (0, 0), (1, 0), (0, 5))))))
        self.no_fit(TWO, sweep(sweep(cut(sweep(deed(0, (0, 0), (1, 0), (1, 0), (1, 0)))))))

    def test_a_loop_may_stand_in_many_cut_sweeps_or_none(self):
        self.fit(TWO, cut(sweep(cut(sweep(cut(deed(0, (1, 0), (0, 0), (1, 5), (1, 0), (1, 0))))))))
        self.fit(TWO, cut(cut(sweep(sweep(deed(0, (0, 0), (1, 0), (0, 0), (1, 0)))))))

    def test_shifts_at_their_bounds_and_one_beyond(self):
        for shift in (SHIFT, -SHIFT, 1, -1):
            self.fit(ONE, sweep(deed(0, (0, shift))))
            self.fit(ONE, cut(sweep(deed(0, (0, shift), (0, -shift)))))
        for shift in (SHIFT + 1, -SHIFT - 1, 10 ** 30, -10 ** 30):
            self.no_fit(ONE, sweep(deed(0, (0, shift))))
            self.no_fit(ONE, cut(sweep(deed(0, (0, shift), (0, 0)))))
            self.no_fit(ONE, cut(sweep(deed(0, (0, 0), (0, shift)))))

    def test_a_sweep_without_an_item(self):
        for bare in (sweep(), cut(), sweep(way="any"), sweep(cut()), cut(sweep(), sweep())):
            self.no_fit(NONE, deed(0), bare)
            self.no_fit(NONE, bare, deed(0))
            self.no_fit(NONE, bare)
            self.no_fit(ONE, sweep(deed(0, (0, 0)), bare))
            self.no_fit(ONE, sweep(bare, deed(0, (0, 0))))
            self.no_fit(ONE, sweep(deed(0, (0, 0))), bare)

    def test_one_deed_wrong_among_right_ones(self):
        right = list(MIXED_PLAN)
        for n, wrong in ((0, sweep(sweep(deed(0, (0, 0), (0, 0))), deed(1, (0, 0)))),
                         (0, sweep(sweep(deed(0, (0, 0), (1, 0))), deed(1, (0, SHIFT + 1)))),
                         (1, deed(2, (0, 0))), (2, sweep(deed(3, (1, 0))))):
            self.no_fit(MIXED, *(right[:n] + [wrong] + right[n + 1:]))

    def test_plans_by_chance_as_point_21_tells(self):
        chance = random.Random(9)
        seen = {True: 0, False: 0}

        def some(k, loops, cuts):
            order = [(False, loop) for loop in range(loops)]
            order += [(True, chance.randrange(loops)) for n in range(cuts)] if loops else []
            chance.shuffle(order)
            item = deed(k, *[(loop, chance.randint(-9, 9)) for cutting, loop in order])
            for cutting, loop in reversed(order):
                item = sweep(item, cut=cutting, way=chance.choice(("up", "down", "any")))
            return item

        for lap in range(300):
            loops = [chance.randrange(4) for n in range(chance.randrange(1, 5))]
            text = "size 9\n" + "".join("".join(f"for {name} 0 1\n" for name in "ijk"[:many]) + "a[0] = 1\n"
                                        + "end\n" * many for many in loops)
            cuts = [chance.randrange(5) if many else 0 for many in loops]
            plan = [some(k, many, more) for k, (many, more) in enumerate(zip(loops, cuts))]
            chance.shuffle(plan)
            expected = all(many + more <= 6 for many, more in zip(loops, cuts))
            seen[expected] += 1
            self.assertIs(fits(read(text), tuple(plan)), expected)
        self.assertGreater(min(seen.values()), 20)


class OwnPlan(unittest.TestCase):
    def test_ordinary_programs(self):
        self.assertEqual(own_plan(NONE), (deed(0),))
        self.assertEqual(own_plan(ONE), (sweep(deed(0, (0, 0))),))
        self.assertEqual(own_plan(THREE), (sweep(sweep(sweep(deed(0, (0, 0), (1, 0), (2, 0))))),))
        self.assertEqual(own_plan(MIXED), MIXED_PLAN)

    def test_items_in_their_order(self):
        program = read("size 9\na[0] = 1\nfor i 0 1\na[0] = 1\nfor j 0 1\na[0] = 1\na[0] = 1\nend\nfor j 0 1\n"
                       "a[0] = 1\nend\na[0] = 1\nend")
        self.assertEqual(own_plan(program), (deed(0), sweep(
            deed(1, (0, 0)), sweep(deed(2, (0, 0), (1, 0)), deed(3, (0, 0), (1, 0))),
            sweep(deed(4, (0, 0), (1, 0))), deed(5, (0, 0)))))

    def test_two_loops_side_by_side_of_one_name(self):
        program = read("size 9\nfor i 0 1\na[i] = 1\nend\nfor i 0 1\na[i] = 1\nend")
        self.assertEqual(own_plan(program), (sweep(deed(0, (0, 0))), sweep(deed(1, (0, 0)))))

    def test_it_fits(self):
        for program in (NONE, ONE, TWO, THREE, MIXED):
            self.assertIs(fits(program, own_plan(program)), True)
        self.assertIs(fits(ONE, own_plan(TWO)), False)
        self.assertIs(fits(MIXED, own_plan(ONE)), False)

    def test_kinds(self):
        def look(items):
            self.assertIs(type(items), tuple)
            for item in items:
                self.assertIs(type(item), tuple)
                if item[0] == "sweep":
                    self.assertEqual([type(part) for part in item], [str, bool, str, tuple])
                    look(item[3])
                else:
                    self.assertEqual([type(part) for part in item], [str, int, tuple])
                    for pair in item[2]:
                        self.assertEqual((type(pair), [type(part) for part in pair]), (tuple, [int, int]))

        for program in (NONE, THREE, MIXED):
            look(own_plan(program))


PLAN = (cut(sweep(deed(3, (0, 1), (0, 2)), way="down"), way="any"),
        deed(2),
        sweep(deed(1, (0, 9)), cut(sweep(deed(0, (1, 4), (0, 5), (0, 6)), way="any"), way="down")))


class WhatStandsInAPlan(unittest.TestCase):
    def test_the_plan_fits(self):
        self.assertIs(fits(MIXED, PLAN), True)

    def test_sweeps(self):
        self.assertEqual(sweeps_of(PLAN), [
            ((0,), True, "any"), ((0, 0), False, "down"), ((2,), False, "up"),
            ((2, 1), True, "down"), ((2, 1, 0), False, "any")])
        self.assertEqual(sweeps_of(MIXED_PLAN),
                         [((0,), False, "up"), ((0, 0), False, "up"), ((2,), False, "up")])

    def test_no_sweeps(self):
        self.assertEqual(sweeps_of((deed(0),)), [])
        self.assertEqual(sweeps_of((deed(1), deed(0))), [])

    def test_a_sweep_ahead_of_those_in_it(self):
        inner = sweep(sweep(deed(0, (0, 0), (1, 0), (0, 0))), sweep(deed(1, (0, 0), (1, 0), (0, 0))))
        paths = [path for path, cutting, way in sweeps_of((cut(inner), deed(3), sweep(deed(2, (0, 0)))))]
        self.assertEqual(paths, [(0,), (0, 0), (0, 0, 0), (0, 0, 1), (2,)])

    def test_the_kinds_of_sweeps(self):
        found = sweeps_of(PLAN)
        self.assertIs(type(found), list)
        for told in found:
            self.assertEqual((type(told), [type(part) for part in told]), (tuple, [tuple, bool, str]))
            self.assertEqual({type(number) for number in told[0]}, {int})

    def test_each_path_leads_to_its_sweep(self):
        for path, cutting, way in sweeps_of(PLAN):
            items = PLAN
            for number in path:
                item = items[number]
                items = item[3] if item[0] == "sweep" else None
            self.assertEqual(item[:3], ("sweep", cutting, way))

    def test_stand(self):
        self.assertEqual(stand(PLAN, 3), ((0, 0, 0), ((0, 1), (0, 2))))
        self.assertEqual(stand(PLAN, 2), ((1,), ()))
        self.assertEqual(stand(PLAN, 1), ((2, 0), ((0, 9),)))
        self.assertEqual(stand(PLAN, 0), ((2, 1, 0, 0), ((1, 4), (0, 5), (0, 6))))
        self.assertEqual(stand(MIXED_PLAN, 1), ((0, 1), ((0, 0),)))

    def test_the_kinds_of_a_stand(self):
        for k in range(4):
            path, places = stand(PLAN, k)
            self.assertIs(type(stand(PLAN, k)), tuple)
            self.assertEqual((type(path), type(places)), (tuple, tuple))
            self.assertEqual({type(number) for number in path}, {int})


class NothingIsKept(unittest.TestCase):
    def questions(self):
        return (lambda: fits(MIXED, PLAN), lambda: fits(MIXED, ()), lambda: own_plan(MIXED),
                lambda: sweeps_of(PLAN), lambda: stand(PLAN, 0), lambda: fits(ONE, PLAN))

    def test_asked_twice_and_with_others_between(self):
        first = [question() for question in self.questions()]
        again = [question() for question in reversed(self.questions())]
        self.assertEqual(first, again[::-1])

    def test_what_is_handed_in_is_not_changed(self):
        plan, deeds = copy.deepcopy(PLAN), list(MIXED.deeds)
        fields = [dict(vars(one)) for one in deeds]
        for question in self.questions():
            question()
        self.assertEqual(PLAN, plan)
        self.assertEqual(MIXED.deeds, deeds)
        self.assertEqual([vars(one) for one in deeds], fields)

    def test_a_told_list_is_the_askers_own(self):
        told = sweeps_of(PLAN)
        kept = list(told)
        told.pop()
        told[0] = None
        self.assertEqual(sweeps_of(PLAN), kept)

    def test_a_deed_taken_out_and_the_program_asked_as_it_then_is(self):
        program = Program(97, MIXED.deeds)
        self.assertIs(fits(program, MIXED_PLAN), True)
        program.deeds.pop(1)
        self.assertIs(fits(program, MIXED_PLAN), False)
        left = (sweep(sweep(deed(0, (0, 0), (1, 0)))), deed(1), sweep(deed(2, (0, 0))))
        self.assertEqual(own_plan(program), left)
        self.assertIs(fits(program, left), True)
        program.deeds.pop(0)
        self.assertEqual(own_plan(program), (deed(0), sweep(deed(1, (0, 0)))))
        self.assertIs(fits(program, left), False)
        self.assertEqual(own_plan(MIXED), MIXED_PLAN)

    def test_a_deed_taken_out_between_two_loops_leaves_two(self):
        program = Program(97, MIXED.deeds)
        program.deeds.pop(2)
        self.assertEqual(own_plan(program), (MIXED_PLAN[0], sweep(deed(2, (0, 0)))))

    def test_a_plan_told_stays_as_the_deeds_are_changed_behind(self):
        program = Program(97, MIXED.deeds)
        plan = own_plan(program)
        program.deeds.clear()
        self.assertEqual(plan, MIXED_PLAN)

    def test_the_list_that_was_handed_in_is_changed_behind(self):
        deeds = list(MIXED.deeds)
        program = Program(97, deeds)
        deeds.pop()
        self.assertEqual(own_plan(program), MIXED_PLAN)
        self.assertIs(fits(program, MIXED_PLAN), True)


if __name__ == "__main__":
    unittest.main()
