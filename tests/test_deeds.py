"""Points 6, 7, 8 and 2: programs, deeds, and the turns of the plain run."""

import itertools
import unittest

from furrow.deeds import Deed, Program, ahead, named, shared, within
from furrow.terms import Cell, Joined, Number

GREATEST = 10 ** 18 - 1
DEED = "deed"


class Loop:
    """A loop of a nest that the tests go through by themselves."""

    def __init__(self, name, low, high, inner):
        self.name, self.low, self.high, self.inner = name, low, high, inner


def places_of(nest, loops=(), path=()):
    """Each deed of a nest, as the loops round it and its path."""
    found = []
    for number, item in enumerate(nest):
        if item == DEED:
            found.append((loops, path + (number,)))
        else:
            found += places_of(item.inner, loops + (item,), path + (number,))
    return found


def program_of(nest):
    return Program(97, [Deed(tuple(loop.name for loop in loops),
                             tuple(loop.low for loop in loops),
                             tuple(loop.high for loop in loops),
                             "a", (("", 0),), Number(1), path)
                        for loops, path in places_of(nest)])


def bound(spot, values):
    return spot[1] + (values[spot[0]] if spot[0] else 0)


def plain_run(nest):
    """The turns of a nest in the order in which its rows are gone through."""
    numbers = {path: k for k, (loops, path) in enumerate(places_of(nest))}
    told = []

    def go(items, values, path):
        for number, item in enumerate(items):
            here = path + (number,)
            if item == DEED:
                told.append((numbers[here], tuple(values.values())))
                continue
            low, high = bound(item.low, values), bound(item.high, values)
            for value in range(low, high + 1):
                go(item.inner, {**values, item.name: value}, here)

    go(nest, {}, ())
    return told


def in_no_loop():
    return [DEED, DEED]


def in_three_loops():
    return [Loop("i", ("", 0), ("", 2), [
        DEED,
        Loop("j", ("i", -1), ("i", 1), [
            Loop("k", ("j", 0), ("i", 1), [DEED, DEED]),
            DEED]),
        DEED])]


def side_by_side():
    return [Loop("i", ("", 0), ("", 2), [DEED]), Loop("i", ("", 0), ("", 2), [DEED])]


def side_by_side_within():
    return [Loop("i", ("", 0), ("", 1), [
        Loop("j", ("", 0), ("", 1), [DEED]),
        Loop("j", ("", 0), ("", 1), [DEED, DEED])])]


def mixed():
    return [DEED,
            Loop("j", ("", -2), ("", 0), [DEED, Loop("i", ("", 1), ("j", 1), [DEED])]),
            DEED,
            Loop("j", ("", -2), ("", 0), [Loop("i", ("j", 0), ("", -1), [DEED]), DEED])]


def empty_loop():
    return [Loop("i", ("", 3), ("", 2), [DEED]),
            Loop("i", ("", 0), ("", 1), [Loop("j", ("i", 0), ("", 0), [DEED])])]


NESTS = (in_no_loop, in_three_loops, side_by_side, side_by_side_within, mixed, empty_loop)


def one_deed(names, lows, highs):
    return Deed(names, lows, highs, "a", (("", 0),), Number(1), (0,) * (len(names) + 1))


class Fields(unittest.TestCase):
    def test_deed(self):
        term = Joined("+", Cell("b", (("i", 0),)), Number(1))
        deed = Deed(("i", "j"), (("", 0), ("i", 0)), (("", 9), ("i", 4)),
                    "a", (("i", 1), ("j", -1)), term, (2, 0, 1))
        self.assertEqual(deed.names, ("i", "j"))
        self.assertEqual(deed.lows, (("", 0), ("i", 0)))
        self.assertEqual(deed.highs, (("", 9), ("i", 4)))
        self.assertEqual(deed.table, "a")
        self.assertEqual(deed.spots, (("i", 1), ("j", -1)))
        self.assertIs(deed.term, term)
        self.assertEqual(deed.path, (2, 0, 1))

    def test_program(self):
        deeds = [one_deed((), (), ()), one_deed((), (), ())]
        for size in (2, GREATEST):
            program = Program(size, deeds)
            self.assertEqual(program.size, size)
            self.assertIs(type(program.deeds), list)
            self.assertEqual(len(program.deeds), 2)
            self.assertIs(program.deeds[0], deeds[0])
            self.assertIs(program.deeds[1], deeds[1])

    def test_two_programs_keep_fields_of_their_own(self):
        first, second = program_of(side_by_side()), Program(5, [one_deed((), (), ())])
        self.assertEqual((first.size, len(first.deeds)), (97, 2))
        self.assertEqual((second.size, len(second.deeds)), (5, 1))


class Shared(unittest.TestCase):
    def test_each_two_deeds_share_the_loops_that_both_are_in(self):
        for nest in NESTS:
            made = nest()
            deeds = program_of(made).deeds
            places = places_of(made)
            for k, l in itertools.product(range(len(deeds)), repeat=2):
                both = [loop for loop in places[k][0]
                        if any(loop is other for other in places[l][0])]
                with self.subTest(nest=nest.__name__, k=k, l=l):
                    self.assertEqual(shared(deeds[k], deeds[l]), len(both))

    def test_each_deed_shares_all_its_loops_with_itself(self):
        deeds = program_of(in_three_loops()).deeds
        self.assertEqual([shared(deed, deed) for deed in deeds], [1, 3, 3, 2, 1])
        self.assertEqual(shared(one_deed((), (), ()), one_deed((), (), ())), 0)

    def test_deeds_at_unlike_depths(self):
        deeds = program_of(in_three_loops()).deeds
        self.assertEqual([shared(deeds[1], deed) for deed in deeds], [1, 3, 3, 2, 1])
        self.assertEqual([shared(deed, deeds[4]) for deed in deeds], [1, 1, 1, 1, 1])

    def test_loops_side_by_side_of_one_name_and_like_bounds_are_not_shared(self):
        one, other = program_of(side_by_side()).deeds
        self.assertEqual((one.names, one.lows, one.highs), (other.names, other.lows, other.highs))
        self.assertEqual(shared(one, other), 0)
        one, other, third = program_of(side_by_side_within()).deeds
        self.assertEqual(shared(one, other), 1)
        self.assertEqual(shared(other, third), 2)

    def test_numbers_alike_behind_unlike_ones_share_nothing(self):
        nest = [Loop("i", ("", 0), ("", 1), [Loop("j", ("", 0), ("", 1), [DEED])]),
                Loop("i", ("", 0), ("", 1), [Loop("j", ("", 0), ("", 1), [DEED])])]
        one, other = program_of(nest).deeds
        self.assertEqual((one.path, other.path), ((0, 0, 0), (1, 0, 0)))
        self.assertEqual(shared(one, other), 0)

    def test_both_need_more_loops_than_the_number_of_the_loop(self):
        # Deeds of two programs, since in one no path begins with another one.
        none, one = one_deed((), (), ()), one_deed(("i",), (("", 0),), (("", 1),))
        two = one_deed(("i", "j"), (("", 0),) * 2, (("", 1),) * 2)
        self.assertEqual((shared(none, one), shared(one, none)), (0, 0))
        self.assertEqual((shared(one, two), shared(two, one)), (1, 1))

    def test_it_is_a_whole_number(self):
        deeds = program_of(mixed()).deeds
        for one, other in itertools.product(deeds, repeat=2):
            self.assertIs(type(shared(one, other)), int)


class Named(unittest.TestCase):
    def test_in_no_loop(self):
        self.assertEqual(named(one_deed((), (), ()), ()), {})

    def test_in_three_loops_from_outside(self):
        deed = one_deed(("z", "a", "m"), (("", 0),) * 3, (("", 9),) * 3)
        told = named(deed, (4, -5, GREATEST))
        self.assertIs(type(told), dict)
        self.assertEqual(list(told.items()), [("z", 4), ("a", -5), ("m", GREATEST)])


class Within(unittest.TestCase):
    def test_in_no_loop(self):
        self.assertIs(within(one_deed((), (), ()), ()), True)

    def test_at_a_bound_and_one_beyond_it(self):
        deed = one_deed(("i",), (("", -3),), (("", 5),))
        for value, told in ((-4, False), (-3, True), (0, True), (5, True), (6, False)):
            self.assertIs(within(deed, (value,)), told)

    def test_a_loop_of_one_value(self):
        deed = one_deed(("i",), (("", 4),), (("", 4),))
        self.assertEqual([within(deed, (value,)) for value in (3, 4, 5)], [False, True, False])

    def test_a_loop_whose_high_bound_is_less_has_no_value(self):
        for high in (3, -10):
            deed = one_deed(("i",), (("", 4),), (("", high),))
            self.assertEqual([within(deed, (value,)) for value in range(-12, 7)], [False] * 19)

    def test_bounds_that_follow_a_loop_round_them(self):
        deed = one_deed(("i", "j"), (("", 0), ("i", -1)), (("", 9), ("i", 2)))
        for i in (0, 4, 9):
            told = [within(deed, (i, j)) for j in (i - 2, i - 1, i, i + 2, i + 3)]
            self.assertEqual(told, [False, True, True, True, False])
        self.assertIs(within(deed, (10, 10)), False)
        self.assertIs(within(deed, (-1, -1)), False)

    def test_the_greatest_numbers(self):
        deed = one_deed(("i", "j"), (("", -GREATEST), ("i", -GREATEST)),
                        (("", GREATEST), ("i", GREATEST)))
        self.assertIs(within(deed, (GREATEST, 2 * GREATEST)), True)
        self.assertIs(within(deed, (GREATEST, 2 * GREATEST + 1)), False)
        self.assertIs(within(deed, (-GREATEST, -2 * GREATEST)), True)
        self.assertIs(within(deed, (-GREATEST, -2 * GREATEST - 1)), False)
        self.assertIs(within(deed, (GREATEST + 1, 0)), False)
        self.assertIs(within(deed, (-GREATEST - 1, 0)), False)

    def test_just_the_turns_of_the_plain_run(self):
        for nest in NESTS:
            made = nest()
            run = set(plain_run(made))
            for k, deed in enumerate(program_of(made).deeds):
                for values in itertools.product(range(-4, 6), repeat=len(deed.names)):
                    with self.subTest(nest=nest.__name__, k=k, values=values):
                        self.assertIs(within(deed, values), (k, values) in run)


class Ahead(unittest.TestCase):
    def test_each_two_turns_are_in_the_order_of_the_plain_run(self):
        for nest in NESTS:
            made = nest()
            program, run = program_of(made), plain_run(made)
            for at, one in enumerate(run):
                for behind, other in enumerate(run):
                    if ahead(program, one, other) is not (at < behind):
                        self.fail(f"{nest.__name__}: {one} and {other}")

    def test_a_turn_and_itself(self):
        for nest in NESTS:
            made = nest()
            for turn in plain_run(made):
                self.assertIs(ahead(program_of(made), turn, turn), False)

    def test_deeds_in_no_loop(self):
        program = program_of(in_no_loop())
        self.assertIs(ahead(program, (0, ()), (1, ())), True)
        self.assertIs(ahead(program, (1, ()), (0, ())), False)

    def test_the_first_unlike_value_of_the_shared_loops_decides(self):
        program = program_of(in_three_loops())
        self.assertIs(ahead(program, (2, (0, 1, 1)), (1, (1, 0, 0))), True)
        self.assertIs(ahead(program, (2, (0, 0, 1)), (1, (0, 1, 1))), True)
        self.assertIs(ahead(program, (2, (0, 0, 0)), (1, (0, 0, 1))), True)
        self.assertIs(ahead(program, (2, (0, 0, 1)), (1, (0, 0, 1))), False)
        self.assertIs(ahead(program, (4, (0,)), (0, (1,))), True)

    def test_values_of_loops_that_are_not_shared_decide_nothing(self):
        program = program_of(side_by_side())
        self.assertIs(ahead(program, (0, (2,)), (1, (0,))), True)
        self.assertIs(ahead(program, (1, (0,)), (0, (2,))), False)
        self.assertIs(ahead(program, (0, (1,)), (1, (1,))), True)
        self.assertIs(ahead(program, (1, (1,)), (0, (1,))), False)

    def test_turns_far_apart_are_not_gone_through(self):
        program = program_of([Loop("i", ("", -GREATEST), ("", GREATEST), [DEED, DEED])])
        self.assertIs(ahead(program, (1, (-GREATEST,)), (0, (GREATEST,))), True)
        self.assertIs(ahead(program, (0, (GREATEST,)), (1, (GREATEST - 1,))), False)


class NothingIsKept(unittest.TestCase):
    def test_the_list_that_was_handed_in_is_changed_behind(self):
        deeds = program_of(mixed()).deeds
        program = Program(7, deeds)
        before = list(program.deeds)
        deeds.pop()
        deeds[0] = None
        deeds.append(one_deed((), (), ()))
        self.assertEqual(program.deeds, before)

    def test_the_programs_list_is_changed_and_the_one_handed_in_stays(self):
        deeds = [one_deed((), (), ()), one_deed((), (), ())]
        before = list(deeds)
        one, other = Program(7, deeds), Program(7, deeds)
        one.deeds.pop()
        self.assertEqual(deeds, before)
        self.assertEqual(other.deeds, before)

    def test_a_deed_taken_out_and_the_program_asked_as_it_then_is(self):
        program = program_of([Loop("i", ("", 0), ("", 9), [DEED]),
                              Loop("i", ("", 0), ("", 9), [DEED, DEED])])
        one, other = (0, (5,)), (1, (3,))
        self.assertIs(ahead(program, one, other), True)
        program.deeds.pop(0)
        self.assertIs(ahead(program, one, other), False)
        self.assertIs(ahead(program, other, one), True)

    def test_a_told_dict_is_the_askers_own(self):
        deed = one_deed(("i", "j"), (("", 0),) * 2, (("", 9),) * 2)
        told = named(deed, (1, 2))
        told["i"] = 50
        told["k"] = 7
        self.assertEqual(named(deed, (1, 2)), {"i": 1, "j": 2})
        self.assertEqual(deed.names, ("i", "j"))

    def test_asked_twice_and_with_other_values_between(self):
        deed = one_deed(("i", "j"), (("", 0), ("i", 0)), (("", 9), ("i", 1)))
        self.assertEqual([within(deed, values) for values in ((3, 4), (3, 4), (3, 5), (3, 4))],
                         [True, True, False, True])
        self.assertEqual([named(deed, values)["j"] for values in ((3, 4), (3, 5), (3, 4))],
                         [4, 5, 4])
        program = program_of(side_by_side_within())
        one, other = (0, (0, 1)), (1, (0, 0))
        self.assertEqual([ahead(program, one, other), ahead(program, other, one),
                          ahead(program, one, (1, (1, 0))), ahead(program, one, other)],
                         [True, False, True, True])
        first, second, third = program.deeds
        self.assertEqual([shared(first, second), shared(second, third), shared(first, second)],
                         [1, 2, 1])

    def test_nothing_of_a_deed_or_program_is_changed_by_asking(self):
        program = program_of(in_three_loops())
        deeds = list(program.deeds)
        fields = [dict(vars(deed)) for deed in deeds]
        for one, other in itertools.product(plain_run(in_three_loops())[:12], repeat=2):
            ahead(program, one, other)
            shared(deeds[one[0]], deeds[other[0]])
            within(deeds[one[0]], one[1])
            named(deeds[one[0]], one[1])
        self.assertEqual(program.deeds, deeds)
        self.assertEqual(program.size, 97)
        self.assertEqual([vars(deed) for deed in deeds], fields)


if __name__ == "__main__":
    unittest.main()
