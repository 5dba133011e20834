"""Points 28, 29 and 2: lists woven by picks, and all turns in the order of a plan."""

import copy
import functools
import itertools
import random
import unittest

from furrow.errors import FurrowError, NoWidth
from furrow.maker import made
from furrow.plain import turns
from furrow.plans import own_plan
from furrow.reader import read
from furrow.times import order_of
from furrow.weaver import order, woven
from tests.helper import chain, cut, cut_paths_by_hand, deed, ends_by_hand, some_plan, some_program, sweep

GREATEST = 10 ** 18 - 1
SHIFT = 10 ** 18


def woven_by_hand(lists, picks):
    """Point 28 word by word; picks are an iterator, whose members are used up."""
    lists = [list(members) for members in lists if members]
    told = []
    while len(lists) > 1:
        members = lists[next(picks, 0) % len(lists)]
        told.append(members.pop(0))
        lists = [members for members in lists if members]
    return told + (lists[0] if lists else [])


def run_by_hand(program, plan, widths, picks):
    """Point 28 by going through all numbers that might be shown, in the order of the items."""
    everything = turns(program, 10 ** 5)
    rulers = {path: (pair[0], width)
              for path, pair, width in zip(cut_paths_by_hand(plan), ends_by_hand(program, plan), widths)}
    places = {k: chain(plan, k)[-1][1][2] for k in range(len(program.deeds))}
    left = iter(picks)

    def shown(turn, path):
        loop, shift = places[turn[0]][len(path) - 1]
        least, width = rulers.get(path, (0, 1))
        return (turn[1][loop] + shift - least) // width

    def done(items, path, fixed):
        told = []
        for number, item in enumerate(items):
            here = path + (number,)
            if item[0] == "deed":
                told += [turn for turn in everything if turn[0] == item[1]
                         and all(shown(turn, at) == n for at, n in fixed.items())]
                continue
            inside = [turn for turn in everything if chain(item[3], turn[0])]
            numbers = range(min([shown(turn, here) for turn in inside], default=0),
                            max([shown(turn, here) for turn in inside], default=0) + 1)
            if item[2] == "down":
                numbers = reversed(numbers)
            lists = [done(item[3], here, {**fixed, here: n}) for n in numbers]
            told += woven_by_hand(lists, left) if item[2] == "any" else sum(lists, [])
        return told

    return done(plan, (), {}), len(picks) - len(list(left))


class Woven(unittest.TestCase):
    def told(self, lists, picks):
        answer = woven(lists, picks)
        self.assertEqual((type(answer), len(answer)), (tuple, 2))
        self.assertEqual((type(answer[0]), type(answer[1])), (list, int))
        return answer

    def test_nothing_to_weave(self):
        for lists in ([], [[]], [[], [], []]):
            for picks in ([], [0], [5, 6]):
                self.assertEqual(self.told(lists, picks), ([], 0))

    def test_one_list_uses_no_pick(self):
        for lists in ([[1, 2, 3]], [[], [1, 2, 3]], [[1, 2, 3], [], []]):
            for picks in ([], [0], [5, 6]):
                self.assertEqual(self.told(lists, picks), ([1, 2, 3], 0))

    def test_without_picks_list_by_list(self):
        self.assertEqual(self.told([[1, 2], [3], [4, 5]], []), ([1, 2, 3, 4, 5], 0))

    def test_picks_from_the_first_on(self):
        self.assertEqual(self.told([[1, 2], [3, 4]], [1, 0, 1]), ([3, 1, 4, 2], 3))
        self.assertEqual(self.told([[1, 2], [3, 4]], [0, 1, 0]), ([1, 3, 2, 4], 3))
        self.assertEqual(self.told([[1, 2], [3, 4]], [1, 1]), ([3, 4, 1, 2], 2))

    def test_picks_that_are_too_few(self):
        self.assertEqual(self.told([[1, 2], [3, 4]], [1]), ([3, 1, 2, 4], 1))
        self.assertEqual(self.told([[1, 2], [3, 4], [5, 6]], [2, 1]), ([5, 3, 1, 2, 4, 6], 2))

    def test_picks_that_are_too_many(self):
        self.assertEqual(self.told([[1], [2]], [1, 1, 1, 1]), ([2, 1], 1))
        self.assertEqual(self.told([[1, 2], [3]], [0, 0, 7]), ([1, 2, 3], 2))
        self.assertEqual(self.told([[1], [2], [3]], [0] * 9), ([1, 2, 3], 2))

    def test_great_picks_by_their_rest(self):
        self.assertEqual(self.told([[1], [2], [3]], [10 ** 40, 10 ** 40]), ([2, 1, 3], 2))
        self.assertEqual(self.told([[1], [2], [3]], [5, 5]), ([3, 2, 1], 2))

    def test_the_rest_is_by_the_lists_that_are_left(self):
        # Behind the first list's end, pick 1 is of what was the third one.
        self.assertEqual(self.told([[1], [2, 3], [4, 5]], [0, 1, 0, 1]), ([1, 4, 2, 5, 3], 4))
        self.assertEqual(self.told([[], [1, 2], [], [3, 4]], [1, 0, 1]), ([3, 1, 4, 2], 3))
        self.assertEqual(self.told([[1], [], [2]], [1]), ([2, 1], 1))

    def test_anything_may_be_in_the_lists(self):
        some = [None, (), [], {}, "a", 0, [1]]
        self.assertEqual(self.told([some[:3], some[3:]], [1]), ([some[3]] + some[:3] + some[4:], 1))
        self.assertEqual(self.told([[None], [None, None]], []), ([None] * 3, 0))

    def test_lists_by_chance(self):
        chance = random.Random(30)
        for lap in range(500):
            lists = [[(n, m) for m in range(chance.randrange(4))] for n in range(chance.randrange(6))]
            picks = [chance.choice((0, 1, chance.randrange(9), 10 ** 30)) for n in range(chance.randrange(14))]
            left = iter(picks)
            expected = woven_by_hand(lists, left)
            self.assertEqual(self.told(lists, picks), (expected, len(picks) - len(list(left))))

    def test_many_lists(self):
        lists = [[n, -n] for n in range(5000)]
        told, used = self.told(lists, [4999] * 3)
        self.assertEqual((told[:6], used), ([4999, -4999, 0, 0, 1, -1], 3))
        self.assertEqual(len(told), 10000)


class Order(unittest.TestCase):
    def told(self, program, plan, widths, picks):
        found = order(made(program, plan), widths, picks)
        self.assertIs(type(found), list)
        for turn in found:
            self.assertEqual((type(turn), type(turn[0]), type(turn[1])), (tuple, int, tuple))
        self.assertEqual(sorted(found), sorted(turns(program, 10 ** 5)))
        return found

    def values(self, *arguments):
        return [values for k, values in self.told(*arguments)]

    def singles(self, *arguments):
        return [value for value, in self.values(*arguments)]

    def test_a_deed_in_no_loop(self):
        program = read("size 9\na[0] = 1\nb[0] = 1")
        self.assertEqual(self.told(program, (deed(0), deed(1)), [], []), [(0, ()), (1, ())])
        self.assertEqual(self.told(program, (deed(1), deed(0)), [], [5]), [(1, ()), (0, ())])

    def test_one_sweep_of_each_way(self):
        program = read("size 9\nfor i 3 6\na[i] = 1\nend")
        for way, picks, expected in (("up", [1, 1, 1], [3, 4, 5, 6]), ("down", [1, 1, 1], [6, 5, 4, 3]),
                                     ("any", [], [3, 4, 5, 6]), ("any", [3, 2, 1], [6, 5, 4, 3]),
                                     ("any", [1, 1], [4, 5, 3, 6])):
            for shift in (0, -9, SHIFT):
                self.assertEqual(self.singles(program, (sweep(deed(0, (0, shift)), way=way),), [], picks), expected)

    def test_no_turns(self):
        program = read("size 9\nfor i 1 0\na[i] = 1\nend")
        for way in ("up", "down", "any"):
            self.assertEqual(self.told(program, (sweep(deed(0, (0, 0)), way=way),), [], [1]), [])
            self.assertEqual(self.told(program, (cut(sweep(deed(0, (0, 0), (0, 0)), way=way), way=way),), [5], []), [])

    def test_a_cut_sweep_by_its_width(self):
        program = read("size 9\nfor i 3 9\na[i] = 1\nend")
        for shift in (0, 7, -8):
            plan = (cut(sweep(deed(0, (0, shift), (0, 0)), way="down")),)
            self.assertEqual(self.singles(program, plan, [3], []), [5, 4, 3, 8, 7, 6, 9])
            self.assertEqual(self.singles(program, plan, [1], []), [3, 4, 5, 6, 7, 8, 9])
            self.assertEqual(self.singles(program, plan, [7], []), [9, 8, 7, 6, 5, 4, 3])
            self.assertEqual(self.singles(program, plan, [10 ** 50], []), [9, 8, 7, 6, 5, 4, 3])
            plan = (cut(sweep(deed(0, (0, shift), (0, 0))), way="down"),)
            self.assertEqual(self.singles(program, plan, [3], []), [9, 6, 7, 8, 3, 4, 5])
            plan = (cut(sweep(deed(0, (0, shift), (0, 0))), way="any"),)
            self.assertEqual(self.singles(program, plan, [3], [2, 1, 0, 1]), [9, 6, 3, 7, 4, 5, 8])

    def test_squares(self):
        program = read("size 9\nfor i 0 3\nfor j 0 3\na[i] = 1\nend\nend")
        plan = (cut(cut(sweep(sweep(deed(0, (0, 0), (1, 0), (0, 0), (1, 0)))))),)
        expected = [(i + x, j + y) for i in (0, 2) for j in (0, 2) for x in (0, 1) for y in (0, 1)]
        self.assertEqual(self.values(program, plan, [2, 2], []), expected)
        expected = [(i + x, j + y) for i in (0, 3) for j in (0, 2) for x in range(3) for y in (0, 1) if i + x < 4]
        self.assertEqual(self.values(program, plan, [3, 2], []), expected)

    def test_deeds_side_by_side_in_a_sweep(self):
        program = read("size 9\nfor i 0 2\na[i] = 1\nend\nfor i 0 2\nb[i] = 1\nend")
        found = self.told(program, (sweep(deed(1, (0, 0)), deed(0, (0, 1))),), [], [])
        self.assertEqual(found, [(1, (0,)), (1, (1,)), (0, (0,)), (1, (2,)), (0, (1,)), (0, (2,))])
        found = self.told(program, (sweep(deed(1, (0, 0)), deed(0, (0, 1)), way="down"),), [], [])
        self.assertEqual(found, [(0, (2,)), (1, (2,)), (0, (1,)), (1, (1,)), (0, (0,)), (1, (0,))])
        # The lists are 0: b0; 1: b1 a0; 2: b2 a1; 3: a2.
        plan = (sweep(deed(1, (0, 0)), deed(0, (0, 1)), way="any"),)
        found = self.told(program, plan, [], [2, 2, 2, 0, 1])
        self.assertEqual(found, [(1, (2,)), (0, (1,)), (0, (2,)), (1, (0,)), (1, (1,)), (0, (0,))])

    def test_inner_lists_are_woven_first(self):
        program = read("size 9\nfor i 0 1\nfor j 0 1\na[i] = 1\nend\nend")
        plan = (sweep(sweep(deed(0, (0, 0), (1, 0)), way="any"), way="any"),)
        # One pick for i = 0, one for i = 1, then those of i.
        self.assertEqual(self.values(program, plan, [], [1]), [(0, 1), (0, 0), (1, 0), (1, 1)])
        self.assertEqual(self.values(program, plan, [], [0, 1]), [(0, 0), (0, 1), (1, 1), (1, 0)])
        self.assertEqual(self.values(program, plan, [], [1, 0, 1, 0, 1]), [(1, 0), (0, 1), (1, 1), (0, 0)])

    def test_picks_of_a_falling_sweep_are_used_up_falling(self):
        program = read("size 9\nfor i 0 1\nfor j 0 1\na[i] = 1\nend\nend")
        plan = (sweep(sweep(deed(0, (0, 0), (1, 0)), way="any"), way="down"),)
        self.assertEqual(self.values(program, plan, [], [1, 0]), [(1, 1), (1, 0), (0, 0), (0, 1)])
        plan = (sweep(sweep(deed(0, (0, 0), (1, 0)), way="any"), way="up"),)
        self.assertEqual(self.values(program, plan, [], [1, 0]), [(0, 1), (0, 0), (1, 0), (1, 1)])

    def test_picks_go_on_from_item_to_item(self):
        program = read("size 9\nfor i 0 1\na[i] = 1\nend\nfor i 0 1\nb[i] = 1\nend")
        plan = (sweep(deed(1, (0, 0)), way="any"), sweep(deed(0, (0, 0)), way="any"))
        self.assertEqual(self.told(program, plan, [], [0, 1]), [(1, (0,)), (1, (1,)), (0, (1,)), (0, (0,))])
        self.assertEqual(self.told(program, plan, [], [1, 0]), [(1, (1,)), (1, (0,)), (0, (0,)), (0, (1,))])

    def test_times_that_lie_far_apart(self):
        program = read(f"size 9\nfor i -{GREATEST} {1 - GREATEST}\na[i] = 1\nend\n"
                       f"for i {GREATEST - 1} {GREATEST}\nb[i] = 1\nend")
        one, other = [(0, (-GREATEST,)), (0, (1 - GREATEST,))], [(1, (GREATEST - 1,)), (1, (GREATEST,))]
        for shift in (0, SHIFT):
            plan = (sweep(deed(0, (0, -shift)), deed(1, (0, shift))),)
            self.assertEqual(self.told(program, plan, [], []), one + other)
            plan = (sweep(deed(0, (0, -shift)), deed(1, (0, shift)), way="down"),)
            self.assertEqual(self.told(program, plan, [], []), (one + other)[::-1])
            plan = (sweep(deed(0, (0, -shift)), deed(1, (0, shift)), way="any"),)
            self.assertEqual(self.told(program, plan, [], [3, 1, 1]), [other[1], one[1], other[0], one[0]])
            plan = (cut(sweep(deed(0, (0, -shift), (0, 0)), deed(1, (0, shift), (0, 0)), way="down"), way="any"),)
            for width in (10 ** 9, SHIFT):
                self.assertEqual(self.told(program, plan, [width], [1]), [other[1], one[1], one[0], other[0]])
            # By width 2 the last two turns are parted.
            self.assertEqual(self.told(program, plan, [2], [1]), [other[0], one[1], one[0], other[1]])

    def test_turns_that_meet_in_the_middle(self):
        far = GREATEST // 2
        program = read(f"size 9\nfor i 0 1\na[i] = 1\nend\nfor i {far} {far + 1}\nb[i] = 1\nend")
        plan = (sweep(deed(1, (0, -far)), deed(0, (0, 0))),)
        self.assertEqual(self.told(program, plan, [], []), [(1, (far,)), (0, (0,)), (1, (far + 1,)), (0, (1,))])

    def test_six_sweeps(self):
        program = read("size 9\nfor i 0 3\nfor j 0 i\nfor k j 3\na[i] = 1\nend\nend\nend")
        item = deed(0, (2, 0), (1, 0), (0, 0), (0, 0), (1, 0), (2, 0))
        for level in reversed(range(6)):
            item = sweep(item, cut=level < 3, way=("up", "down", "any")[level % 3])
        picks = list(range(200))
        found = self.told(program, (item,), [2, 3, 2], picks)
        self.assertEqual(found, run_by_hand(program, (item,), [2, 3, 2], picks)[0])

    def test_the_own_plan_is_the_plain_run(self):
        chance = random.Random(31)
        for lap in range(60):
            program = some_program(chance)
            self.assertEqual(order(made(program, own_plan(program)), [], [1, 2]), turns(program, 1000))

    def test_plans_without_any_by_chance_in_the_order_of_point_24(self):
        chance = random.Random(32)
        for lap in range(150):
            program = some_program(chance, 30)
            plan = some_plan(chance, program, ways=("up", "down"))
            widths = [chance.randint(1, 4) for path in cut_paths_by_hand(plan)]
            found = self.told(program, plan, widths, [1, 2, 3])
            key = functools.cmp_to_key(functools.partial(order_of, program, plan, widths))
            self.assertEqual(found, sorted(turns(program, 1000), key=key))

    def test_plans_by_chance_in_the_order_of_point_28(self):
        chance = random.Random(33)
        used = 0
        for lap in range(200):
            program = some_program(chance, 30)
            plan = some_plan(chance, program)
            widths = [chance.randint(1, 4) for path in cut_paths_by_hand(plan)]
            picks = [chance.choice((0, 1, 2, 3, 10 ** 20)) for n in range(chance.choice((0, 3, 20, 80)))]
            found = self.told(program, plan, widths, picks)
            expected, many = run_by_hand(program, plan, widths, picks)
            used += many
            self.assertEqual(found, expected)
            for one, other in itertools.combinations(found, 2):
                self.assertIn(order_of(program, plan, widths, one, other), (-1, 0))
        self.assertGreater(used, 300)

    def test_ten_thousand_turns(self):
        program = read("size 9\nfor i 1 4998\na[i] = 1\nend")
        expected = [(0, (n,)) for n in range(1, 4999)]
        for way in ("up", "any"):
            self.assertEqual(order(made(program, (sweep(deed(0, (0, 0)), way=way),)), [], []), expected)
        plan = (cut(sweep(deed(0, (0, 0), (0, 0)), way="down"), way="down"),)
        self.assertEqual(order(made(program, plan), [70], []), expected[::-1])
        picks = list(reversed(range(4998)))
        self.assertEqual(order(made(program, (sweep(deed(0, (0, 0)), way="any"),)), [], picks), expected[::-1])


class NoWidths(unittest.TestCase):
    def no_width(self, code, widths, picks=()):
        with self.assertRaises(NoWidth) as caught:
            order(code, list(widths), list(picks))
        self.assertIsInstance(caught.exception, FurrowError)

    def test_too_few_too_many_or_below_one(self):
        program = read("size 9\nfor i 3 9\na[i] = 1\nend")
        none = made(program, (sweep(deed(0, (0, 0))),))
        one = made(program, (cut(sweep(deed(0, (0, 0), (0, 0)))),))
        two = made(program, (cut(cut(sweep(deed(0, (0, 0), (0, 0), (0, 0))))),))
        for widths in ([1], [0], [1, 1]):
            self.no_width(none, widths)
        for widths in ([], [1, 1], [0], [-1], [-10 ** 30], [1, 0]):
            self.no_width(one, widths)
        for widths in ([], [1], [1, 1, 1], [0, 1], [1, 0], [-5, 5]):
            self.no_width(two, widths, [1])
        self.assertEqual(len(order(none, [], [])), 7)
        self.assertEqual(len(order(one, [1], [])), 7)
        self.assertEqual(len(order(two, [1, 1], [])), 7)

    def test_a_program_without_turns(self):
        code = made(read("size 9\nfor i 3 2\na[i] = 1\nend"), (cut(sweep(deed(0, (0, 0), (0, 0)))),))
        for widths in ([], [0], [1, 1]):
            self.no_width(code, widths)
        self.assertEqual(order(code, [1], []), [])

    def test_ahead_of_all_else(self):
        # Nothing is gone through first: these turns could not be.
        program = read(f"size 9\nfor i -{GREATEST} {GREATEST}\nfor j -{GREATEST} {GREATEST}\na[i] = 1\nend\nend")
        code = made(program, (cut(sweep(sweep(deed(0, (0, 0), (0, 0), (1, 0))))),))
        for widths in ([], [0], [1, 1]):
            self.no_width(code, widths)


class NothingIsKept(unittest.TestCase):
    PROGRAM = read("size 9\nfor i 0 2\nfor j 0 2\na[i] = 1\nend\nb[i] = 1\nend")
    PLAN = (cut(sweep(sweep(deed(0, (0, 0), (0, 0), (1, 0)), way="any"), deed(1, (0, 1), (0, 0)), way="any")),)

    def test_run_twice_and_with_others_between(self):
        code = made(self.PROGRAM, self.PLAN)
        first = order(code, [2], [1, 2, 1, 1])
        other = order(code, [3], [])
        with self.assertRaises(NoWidth):
            order(code, [], [])
        self.assertEqual(order(code, [2], [1, 2, 1, 1]), first)
        self.assertEqual(order(code, [3], []), other)
        self.assertEqual(order(made(self.PROGRAM, self.PLAN), [2], [1, 2, 1, 1]), first)
        self.assertNotEqual(first, other)

    def test_what_is_handed_in_is_not_changed(self):
        widths, picks, plan = [2], [1, 2, 1, 1, 5], copy.deepcopy(self.PLAN)
        order(made(self.PROGRAM, self.PLAN), widths, picks)
        self.assertEqual((widths, picks, self.PLAN), ([2], [1, 2, 1, 1, 5], plan))
        lists = [[1, 2], [], [3], [4, 5]]
        woven(lists, picks)
        self.assertEqual((lists, picks), ([[1, 2], [], [3], [4, 5]], [1, 2, 1, 1, 5]))

    def test_what_is_told_is_the_askers_own(self):
        code = made(self.PROGRAM, self.PLAN)
        told = order(code, [2], [1])
        kept = list(told)
        told.clear()
        self.assertEqual(order(code, [2], [1]), kept)
        for lists in ([[1, 2]], [[1], [2]], [[], [7]]):
            told = woven(lists, [])[0]
            before = copy.deepcopy(lists)
            told.append(9)
            self.assertEqual(lists, before)

    def test_lists_changed_behind(self):
        lists, picks = [[1, 2], [3]], [1]
        told = woven(lists, picks)
        lists[0].clear()
        picks.clear()
        self.assertEqual(told, ([3, 1, 2], 1))


if __name__ == "__main__":
    unittest.main()
