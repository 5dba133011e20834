"""Points 30 and 2: turnings, where they can be and where they can't."""

import copy
import random
import unittest

from furrow.errors import FurrowError, NoTurning
from furrow.plans import fits, own_plan, sweeps_of
from furrow.reader import read
from furrow.turnings import cut as cutting
from furrow.turnings import freed, joined, moved, parted, swapped, turned
from tests.helper import chain, cut, cut_paths_by_hand, deed, some_plan, some_program, sweep

SHIFT = 10 ** 18

# Deed 0 in i and j, deed 1 in i, deed 2 in no loop, deeds 3 and 4 in another i.
PROGRAM = read("size 97\nfor i 0 9\nfor j 0 9\na[i] = 1\nend\nb[i] = 2\nend\nc[0] = 3\nfor i 0 9\nd[i] = 4\ne[i] = 5\nend")
PLAN = (sweep(sweep(deed(0, (0, 1), (1, 2)), way="any"), deed(1, (0, 3))), deed(2),
        cut(sweep(deed(3, (0, 4), (0, 5)), deed(4, (0, 6), (0, 7)), way="down"), way="any"))

# Each turning with the arguments behind the path that it can be done with somewhere.
ALL = (("swapped", swapped, ()), ("joined", joined, ()), ("parted", parted, (1,)), ("turned", turned, ()),
       ("moved", moved, (0, 1)), ("cut", cutting, ()), ("freed", freed, ()))


class Case(unittest.TestCase):
    def refused(self, turning, *arguments):
        with self.assertRaises(NoTurning) as caught:
            turning(*arguments)
        self.assertIsInstance(caught.exception, FurrowError)

    def look_at_kinds(self, items):
        self.assertIs(type(items), tuple)
        for item in items:
            self.assertIs(type(item), tuple)
            if item[0] == "sweep":
                self.assertEqual([type(part) for part in item], [str, bool, str, tuple])
                self.look_at_kinds(item[3])
            else:
                self.assertEqual([type(part) for part in item], [str, int, tuple])
                for pair in item[2]:
                    self.assertEqual((type(pair), [type(part) for part in pair]), (tuple, [int, int]))

    def made(self, turning, *arguments):
        plan = turning(*arguments)
        self.look_at_kinds(plan)
        return plan


class Paths(Case):
    def test_each_turning_needs_a_sweep_at_the_path(self):
        beyond = ((3,), (10 ** 30,), (0, 2), (0, 0, 1), (2, 1), (2, 0, 2), (3, 0), (9, 9, 9))
        below = ((-1,), (-2,), (-3,), (-10 ** 30,), (0, -1), (0, -2), (-3, 0), (2, -1), (0, 0, -1), (-1, 0))
        deeds = ((1,), (0, 1), (0, 0, 0), (2, 0, 0), (2, 0, 1))
        behind = ((1, 0), (0, 1, 0), (0, 0, 0, 0), (2, 0, 1, 0), (1, -1), (1, 0, 0), (2, 0, 0, 0, 0))
        for name, turning, more in ALL:
            for path in beyond + below + deeds + behind:
                with self.subTest(name=name, path=path):
                    self.refused(turning, PLAN, path, *more)

    def test_a_path_without_numbers_tells_no_sweep(self):
        for name, turning, more in ALL:
            self.refused(turning, PLAN, (), *more)

    def test_a_plan_without_sweeps(self):
        for name, turning, more in ALL:
            for path in ((0,), (1,), (-1,), (0, 0)):
                self.refused(turning, (deed(0),), path, *more)


class Swapped(Case):
    def test_two_sweeps(self):
        plan = (sweep(cut(deed(0, (0, 1), (1, 2)), way="any"), way="down"),)
        self.assertEqual(self.made(swapped, plan, (0,)),
                         (cut(sweep(deed(0, (1, 2), (0, 1)), way="down"), way="any"),))

    def test_all_deeds_within(self):
        plan = (deed(5), sweep(sweep(deed(0, (0, 1), (1, 2)), cut(deed(1, (1, 3), (0, 4), (1, 5)), way="any"),
                                     deed(2, (0, 6), (1, 7)))), deed(6))
        expected = (deed(5), sweep(sweep(deed(0, (1, 2), (0, 1)), cut(deed(1, (0, 4), (1, 3), (1, 5)), way="any"),
                                         deed(2, (1, 7), (0, 6)))), deed(6))
        self.assertEqual(self.made(swapped, plan, (1,)), expected)

    def test_at_a_depth_just_the_two_pairs(self):
        plan = (sweep(deed(3, (0, 9)), sweep(cut(sweep(deed(0, (0, 1), (1, 2), (2, 3), (2, 4)))), way="down")),)
        self.assertEqual(self.made(swapped, plan, (0, 1)),
                         (sweep(deed(3, (0, 9)), cut(sweep(sweep(deed(0, (0, 1), (2, 3), (1, 2), (2, 4))), way="down"))),))
        self.assertEqual(self.made(swapped, plan, (0, 1, 0)),
                         (sweep(deed(3, (0, 9)), sweep(sweep(cut(deed(0, (0, 1), (1, 2), (2, 4), (2, 3)))), way="down")),))

    def test_twice_is_not_at_all(self):
        plan = (sweep(cut(deed(0, (0, 1), (1, 2)), deed(1, (1, 3), (0, 4)), way="any"), way="down"),)
        self.assertEqual(swapped(swapped(plan, (0,)), (0,)), plan)

    def test_more_items_than_one_or_no_sweep_within(self):
        for items in ((deed(0, (0, 0)),), (sweep(deed(0, (0, 0), (1, 0))), deed(1, (0, 0))),
                      (deed(1, (0, 0)), sweep(deed(0, (0, 0), (1, 0)))),
                      (sweep(deed(0, (0, 0), (1, 0))), sweep(deed(1, (0, 0), (1, 0))))):
            self.refused(swapped, (sweep(*items),), (0,))
        self.refused(swapped, PLAN, (0,))
        self.refused(swapped, PLAN, (2, 0))
        self.assertEqual(swapped(PLAN, (2,))[:2], PLAN[:2])


class Joined(Case):
    def test_two_sweeps(self):
        plan = (sweep(deed(0, (0, 1)), sweep(deed(1, (0, 2), (1, 0)))), sweep(deed(2, (0, 3)), deed(3, (0, 4))), deed(4))
        self.assertEqual(self.made(joined, plan, (0,)),
                         (sweep(deed(0, (0, 1)), sweep(deed(1, (0, 2), (1, 0))), deed(2, (0, 3)), deed(3, (0, 4))),
                          deed(4)))

    def test_each_cut_and_way(self):
        for cutting_one in (True, False):
            for way in ("up", "down", "any"):
                plan = tuple(sweep(sweep(deed(k, (0, 0), (0, 0))), cut=cutting_one, way=way) for k in range(2))
                inner = [sweep(deed(k, (0, 0), (0, 0))) for k in range(2)]
                self.assertEqual(self.made(joined, plan, (0,)), (sweep(*inner, cut=cutting_one, way=way),))

    def test_at_a_depth_with_neighbours(self):
        inner = [sweep(deed(k, (0, k), (1, k))) for k in range(4)]
        expected = (deed(9), sweep(inner[0], sweep(deed(1, (0, 1), (1, 1)), deed(2, (0, 2), (1, 2))), inner[3]))
        self.assertEqual(self.made(joined, (deed(9), sweep(*inner)), (1, 1)), expected)

    def test_the_neighbour_behind_only(self):
        plan = (sweep(deed(0, (0, 0))), deed(1), sweep(deed(2, (0, 0))), sweep(deed(3, (0, 0))))
        self.refused(joined, plan, (0,))
        self.refused(joined, plan, (3,))
        self.refused(joined, plan, (1,))
        self.assertEqual(joined(plan, (2,)), plan[:2] + (sweep(deed(2, (0, 0)), deed(3, (0, 0))),))

    def test_below_nought_beside_the_first(self):
        plan = (sweep(deed(0, (0, 0))), sweep(deed(1, (0, 0))))
        self.refused(joined, plan, (-1,))
        self.refused(joined, plan, (-2,))
        self.refused(joined, (sweep(*[sweep(deed(k, (0, 0), (1, 0))) for k in range(2)]),), (0, -1))

    def test_unlike_ones(self):
        one = sweep(sweep(deed(0, (0, 0), (0, 0))))
        for other in (cut(sweep(deed(1, (0, 0), (0, 0)))), sweep(deed(1, (0, 0)), way="down"),
                      sweep(deed(1, (0, 0)), way="any"), cut(sweep(deed(1, (0, 0), (0, 0))), way="any")):
            self.refused(joined, (one, other), (0,))
            self.refused(joined, (other, one), (0,))


class Parted(Case):
    ITEMS = (deed(0, (0, 1)), sweep(deed(1, (0, 2), (1, 0))), deed(2, (0, 3)))

    def test_each_number(self):
        for cutting_it in (True, False):
            for way in ("up", "down", "any"):
                plan = (deed(8), sweep(*self.ITEMS, cut=cutting_it, way=way), deed(9))
                for n in (1, 2):
                    halves = [sweep(*items, cut=cutting_it, way=way) for items in (self.ITEMS[:n], self.ITEMS[n:])]
                    self.assertEqual(self.made(parted, plan, (1,), n), (deed(8), *halves, deed(9)))

    def test_numbers_that_part_nothing(self):
        for n in (0, -1, -2, -3, 3, 4, 10 ** 30, -10 ** 30):
            self.refused(parted, (sweep(*self.ITEMS),), (0,), n)
        for n in (0, 1, 2, -1):
            self.refused(parted, (sweep(deed(0, (0, 0))),), (0,), n)

    def test_at_a_depth(self):
        plan = (sweep(sweep(deed(0, (0, 0), (1, 0)), deed(1, (0, 0), (1, 0)), way="any"), deed(2, (0, 0))),)
        self.assertEqual(self.made(parted, plan, (0, 0), 1),
                         (sweep(sweep(deed(0, (0, 0), (1, 0)), way="any"), sweep(deed(1, (0, 0), (1, 0)), way="any"),
                                deed(2, (0, 0))),))

    def test_joined_again(self):
        plan = (sweep(*self.ITEMS, way="down"), deed(9))
        for n in (1, 2):
            self.assertEqual(joined(parted(plan, (0,), n), (0,)), plan)


class Turned(Case):
    def test_up_and_down(self):
        for cutting_it in (True, False):
            plan = (deed(1), sweep(deed(0, (0, 5)), cut=cutting_it, way="up"))
            expected = (deed(1), sweep(deed(0, (0, 5)), cut=cutting_it, way="down"))
            self.assertEqual(self.made(turned, plan, (1,)), expected)
            self.assertEqual(self.made(turned, expected, (1,)), plan)

    def test_any(self):
        self.refused(turned, PLAN, (0, 0))
        self.refused(turned, PLAN, (2,))

    def test_at_a_depth_just_this_one(self):
        self.assertEqual(self.made(turned, PLAN, (2, 0)),
                         PLAN[:2] + (cut(sweep(deed(3, (0, 4), (0, 5)), deed(4, (0, 6), (0, 7))), way="any"),))
        self.assertEqual(self.made(turned, PLAN, (0,)), (sweep(*PLAN[0][3], way="down"),) + PLAN[1:])


class Moved(Case):
    def test_the_pair_of_this_sweep(self):
        self.assertEqual(self.made(moved, PLAN, (0,), 0, 10),
                         (sweep(sweep(deed(0, (0, 11), (1, 2)), way="any"), deed(1, (0, 3))),) + PLAN[1:])
        self.assertEqual(self.made(moved, PLAN, (0, 0), 0, -10),
                         (sweep(sweep(deed(0, (0, 1), (1, -8)), way="any"), deed(1, (0, 3))),) + PLAN[1:])
        self.assertEqual(self.made(moved, PLAN, (0,), 1, 5),
                         (sweep(PLAN[0][3][0], deed(1, (0, 8))),) + PLAN[1:])
        self.assertEqual(self.made(moved, PLAN, (2,), 4, 1)[2],
                         cut(sweep(deed(3, (0, 4), (0, 5)), deed(4, (0, 7), (0, 7)), way="down"), way="any"))

    def test_by_nothing(self):
        self.assertEqual(self.made(moved, PLAN, (2, 0), 3, 0), PLAN)

    def test_a_deed_that_is_not_in_the_sweep(self):
        for path, inside in (((0,), (0, 1)), ((0, 0), (0,)), ((2,), (3, 4)), ((2, 0), (3, 4))):
            for k in (-2, -1, 0, 1, 2, 3, 4, 5, 10 ** 30, -10 ** 30):
                if k in inside:
                    moved(PLAN, path, k, 1)
                else:
                    self.refused(moved, PLAN, path, k, 1)
                    self.refused(moved, PLAN, path, k, 0)

    def test_shifts_at_their_bounds(self):
        for start in (0, 7, -7, SHIFT, -SHIFT):
            plan = (sweep(deed(0, (0, start))),)
            for end in (SHIFT, -SHIFT):
                self.assertEqual(self.made(moved, plan, (0,), 0, end - start), (sweep(deed(0, (0, end))),))
                beyond = end - start + (1 if end > 0 else -1)
                self.refused(moved, plan, (0,), 0, beyond)
            for n in (10 ** 40, -10 ** 40):
                self.refused(moved, plan, (0,), 0, n)

    def test_other_deeds_may_be_at_their_bounds(self):
        plan = (sweep(deed(0, (0, SHIFT)), deed(1, (0, 0))),)
        self.assertEqual(moved(plan, (0,), 1, 1), (sweep(deed(0, (0, SHIFT)), deed(1, (0, 1))),))
        self.refused(moved, plan, (0,), 0, 1)


class Cut(Case):
    def test_a_whole_sweep_of_each_way(self):
        for way in ("up", "down", "any"):
            plan = (deed(1), sweep(deed(0, (0, 5)), way=way))
            self.assertEqual(self.made(cutting, plan, (1,)),
                             (deed(1), cut(sweep(deed(0, (0, 5), (0, 5)), way=way), way=way)))

    def test_all_deeds_within_at_a_depth(self):
        plan = (sweep(deed(3, (0, 9)), sweep(sweep(deed(0, (0, 1), (1, 2), (2, 3)), way="down"), deed(1, (1, 4), (0, 5)))),)
        self.assertEqual(self.made(cutting, plan, (0, 1)),
                         (sweep(deed(3, (0, 9)), cut(sweep(sweep(deed(0, (0, 1), (1, 2), (1, 2), (2, 3)), way="down"),
                                                           deed(1, (1, 4), (0, 5), (0, 5))))),))
        self.assertEqual(self.made(cutting, plan, (0,)),
                         (cut(sweep(deed(3, (0, 9), (0, 9)),
                                    sweep(sweep(deed(0, (0, 1), (0, 1), (1, 2), (2, 3)), way="down"),
                                          deed(1, (1, 4), (1, 4), (0, 5))))),))
        self.assertEqual(self.made(cutting, plan, (0, 1, 0)),
                         (sweep(deed(3, (0, 9)), sweep(cut(sweep(deed(0, (0, 1), (1, 2), (2, 3), (2, 3)), way="down"),
                                                           way="down"), deed(1, (1, 4), (0, 5)))),))

    def test_a_cut_sweep_is_not_cut(self):
        self.refused(cutting, PLAN, (2,))
        self.assertEqual(cutting(PLAN, (2, 0))[2],
                         cut(cut(sweep(deed(3, (0, 4), (0, 5), (0, 5)), deed(4, (0, 6), (0, 7), (0, 7)), way="down"),
                                 way="down"), way="any"))

    def test_a_deed_with_six_pairs(self):
        plan = (sweep(deed(0, (0, 0))), sweep(deed(1, (0, 0))))
        for many in range(5):
            plan = self.made(cutting, plan, (0,) * (many + 1))
            self.assertEqual(len(chain(plan, 0)[-1][1][2]), many + 2)
        self.refused(cutting, plan, (0,) * 6)
        self.assertEqual(cutting(plan, (1,))[1], cut(sweep(deed(1, (0, 0), (0, 0)))))

    def test_six_pairs_beside_or_deeper_within(self):
        inner = sweep(deed(0, (0, 0), (0, 0), (0, 0), (0, 0), (0, 0), (1, 0)))
        for n in range(4):
            inner = cut(inner)
        plan = (sweep(deed(1, (0, 0)), inner, deed(2, (0, 0))), sweep(deed(3, (0, 0))))
        self.refused(cutting, plan, (0,))
        self.refused(cutting, plan, (0, 1, 0, 0, 0, 0))
        self.assertEqual(cutting(plan, (1,)), plan[:1] + (cut(sweep(deed(3, (0, 0), (0, 0)))),))


class Freed(Case):
    def test_each_way_becomes_any(self):
        for cutting_it in (True, False):
            for way in ("up", "down", "any"):
                plan = (deed(1), sweep(deed(0, (0, 5)), cut=cutting_it, way=way))
                self.assertEqual(self.made(freed, plan, (1,)),
                                 (deed(1), sweep(deed(0, (0, 5)), cut=cutting_it, way="any")))

    def test_at_a_depth_just_this_one(self):
        self.assertEqual(self.made(freed, PLAN, (2, 0))[2],
                         cut(sweep(deed(3, (0, 4), (0, 5)), deed(4, (0, 6), (0, 7)), way="any"), way="any"))
        self.assertEqual(self.made(freed, PLAN, (0,)), (sweep(*PLAN[0][3], way="any"),) + PLAN[1:])


class ByChance(Case):
    def test_what_comes_of_a_fitting_plan_fits(self):
        chance = random.Random(41)
        seen = {}
        for lap in range(900):
            program = some_program(chance)
            plan = some_plan(chance, program)
            for step in range(6):
                name, turning, more = chance.choice(ALL)
                paths = [path for path, cut_it, way in sweeps_of(plan)] or [(0,)]
                path = chance.choice(paths)
                if name == "moved":
                    more = (chance.randrange(len(program.deeds)), chance.randint(-3, 3))
                try:
                    plan = self.made(turning, plan, path, *more)
                except NoTurning:
                    continue
                seen[name] = seen.get(name, 0) + 1
                self.assertIs(fits(program, plan), True)
        self.assertEqual(len(seen), 7)
        self.assertGreater(min(seen.values()), 15)


class NothingIsKept(Case):
    QUESTIONS = ((swapped, (2,)), (parted, (0,), 1), (turned, (2, 0)), (moved, (0,), 1, 4), (cutting, (0,)), (freed, (0,)))

    def test_asked_twice_and_with_others_between(self):
        first = [question[0](PLAN, *question[1:]) for question in self.QUESTIONS]
        self.refused(joined, PLAN, (0,))
        again = [question[0](PLAN, *question[1:]) for question in reversed(self.QUESTIONS)]
        self.assertEqual(first, again[::-1])

    def test_what_is_handed_in_is_not_changed(self):
        kept = copy.deepcopy(PLAN)
        for turning, *arguments in self.QUESTIONS:
            self.assertNotEqual(turning(PLAN, *arguments), PLAN)
            self.assertEqual(PLAN, kept)

    def test_the_plan_of_these_tests_fits(self):
        self.assertIs(fits(PROGRAM, PLAN), True)
        self.assertEqual(cut_paths_by_hand(PLAN), [(2,)])
        self.assertIs(fits(PROGRAM, cutting(own_plan(PROGRAM), (0, 0))), True)


if __name__ == "__main__":
    unittest.main()
