"""Points 13, 14, 8 and 2: the turns of the plain run, and what turns leave in the cells."""

import itertools
import random
import re
import unittest

from furrow.deeds import Deed, Program, ahead, within
from furrow.errors import FurrowError, TooMany
from furrow.plain import done, turns
from furrow.reader import read
from furrow.terms import Cell, Joined, Number, Value

GREATEST = 10 ** 18 - 1


def in_python(text):
    """A program's text as Python's own loops: run(cells) tells its turns and how many of loops."""
    rows, names, k = [], [], 0
    for row in text.split("\n")[1:]:
        blanks = "    " * (len(names) + 1)
        words = row.split()
        if words[0] == "for":
            rows += [f"{blanks}for {words[1]} in range({words[2]}, {words[3]} + 1):",
                     f"{blanks}    told.loops += 1"]
            names.append(words[1])
        elif words[0] == "end":
            names.pop()
        else:
            sides = [re.sub(r"([a-z]+)((\[[^]]*\])+)", placed_in_python, side)
                     for side in row.split("=")]
            rows += [f"{blanks}told.turns.append(({k}, ({''.join(name + ', ' for name in names)})))",
                     f"{blanks}cells[{sides[0].strip()[len('cells.get('):-len(', 0)')]}]"
                     f" = ({sides[1].strip()}) % {text.split()[1]}"]
            k += 1
    source = "def run(told, cells):\n" + "\n".join(rows)
    known = {}
    exec(source, known)
    return known["run"]


def placed_in_python(found):
    spots = found[2][1:-1].replace("][", ", ")
    return f"cells.get(('{found[1]}', ({spots},)), 0)"


class Told:
    def __init__(self, text, cells=()):
        self.turns, self.loops, self.cells = [], 0, dict(cells)
        in_python(text)(self, self.cells)
        self.cells = {cell: n for cell, n in self.cells.items() if n}
        self.all = self.loops + len(self.turns)


TEXTS = (
    "size 97\na[0] = 1",
    "size 97\na[0] = 1\nb[0] = a[0]\na[0] = b[0]+a[0]",
    "size 97\nfor i 0 4\na[i] = a[i-1]+i\nend",
    "size 97\nfor i -3 2\na[i] = i\nb[0] = b[0]*2+a[i]\nend",
    "size 97\nfor i 4 4\na[i] = i\nend",
    "size 97\nfor i 4 3\na[i] = 1\nend",
    "size 97\nfor i 4 -20\na[i] = 1\nend\nb[0] = 5",
    "size 97\nfor i 0 3\nfor j 0 i\na[i][j] = a[i-1][j]+a[i][j-1]+1\nend\nend",
    "size 97\nfor i 0 5\nfor j i+1 3\na[i] = a[i]+j\nend\nend",
    "size 97\nfor i 0 9\nfor j 1 0\na[i] = 1\nend\nend",
    "size 97\nfor i 0 2\na[i] = 3\nfor j i-1 i+1\nfor k j i+1\nb[k] = b[k]+a[i]\nb[j] = 1\nend\n"
    "a[j] = b[j]\nend\na[i] = a[i]*2\nend",
    "size 97\nfor i 0 2\nfor j 0 2\na[i][j] = i\nend\nfor j 0 2\na[j][i] = a[i][j]*7+j\nend\nend",
    "size 97\nfor i 0 3\na[i] = i\nend\nfor i 0 3\nb[i] = a[3]+a[i]\nend",
    "size 97\nb[1] = 4\nfor k -2 0\nfor i 1 k+1\nb[i] = b[1]+k\nend\nend\nb[0] = b[1]-9\n"
    "for k 0 2\nfor i k 1\nfor m i k\nb[m] = b[m]*b[1]-m\nend\nend\nb[k] = b[k]+1\nend",
    "size 97\nfor i 0 2\nfor j i 1\nfor k j i\na[0] = a[0]+1\nend\nend\nend",
)


class Turns(unittest.TestCase):
    def test_the_order_in_which_python_goes_through_the_loops(self):
        for text in TEXTS:
            with self.subTest(text=text):
                self.assertEqual(turns(read(text), 10 ** 6), Told(text).turns)

    def test_kinds(self):
        for text in TEXTS:
            found = turns(read(text), 10 ** 6)
            self.assertIs(type(found), list)
            for turn in found:
                self.assertIs(type(turn), tuple)
                self.assertEqual([type(part) for part in turn], [int, tuple])
                self.assertTrue(all(type(value) is int for value in turn[1]))

    def test_each_turn_is_ahead_of_those_behind_it(self):
        for text in TEXTS:
            program = read(text)
            found = turns(program, 10 ** 6)
            for one, other in itertools.combinations(found, 2):
                self.assertIs(ahead(program, one, other), True)
                self.assertIs(ahead(program, other, one), False)

    def test_all_turns_are_there_once(self):
        for text in TEXTS:
            program = read(text)
            expected = [(k, values) for k, deed in enumerate(program.deeds)
                        for values in itertools.product(range(-5, 10), repeat=len(deed.names))
                        if within(deed, values)]
            self.assertEqual(sorted(turns(program, 10 ** 6)), expected)

    def test_a_deed_in_no_loop_has_one_turn(self):
        self.assertEqual(turns(read("size 2\na[0] = 1\na[1] = 1"), 2), [(0, ()), (1, ())])

    def test_a_loop_of_no_values(self):
        for high in ("3", "-1", "-" + "9" * 18):
            self.assertEqual(turns(read(f"size 2\nfor i 4 {high}\na[i] = 1\nend"), 0), [])

    def test_bounds_by_loops_farther_out(self):
        text = "size 2\nfor i 1 2\nfor j 7 8\nfor k i i+1\na[k] = j\nend\nend\nend"
        self.assertEqual(turns(read(text), 22), [
            (0, (1, 7, 1)), (0, (1, 7, 2)), (0, (1, 8, 1)), (0, (1, 8, 2)),
            (0, (2, 7, 2)), (0, (2, 7, 3)), (0, (2, 8, 2)), (0, (2, 8, 3))])

    def test_the_greatest_bounds(self):
        text = f"size 2\nfor i {'9' * 18} {'9' * 18}\nfor j i+{'9' * 18} i+{'9' * 18}\na[j] = 1\nend\nend"
        self.assertEqual(turns(read(text), 3), [(0, (GREATEST, 2 * GREATEST))])
        text = f"size 2\nfor i -{'9' * 18} -{'9' * 18}\na[i] = 1\nend"
        self.assertEqual(turns(read(text), 2), [(0, (-GREATEST,))])


class TooManyTurns(unittest.TestCase):
    def refused(self, program, most):
        with self.assertRaises(TooMany):
            turns(program, most)

    def test_a_number_that_is_just_enough_and_one_less(self):
        for text in TEXTS:
            told = Told(text)
            with self.subTest(text=text):
                self.assertEqual(turns(read(text), told.all), told.turns)
                self.assertEqual(turns(read(text), told.all + 1), told.turns)
                if told.all:
                    self.refused(read(text), told.all - 1)
                    self.refused(read(text), 0)

    def test_each_number_below(self):
        for text in TEXTS:
            for most in range(Told(text).all):
                self.refused(read(text), most)

    def test_turns_of_loops_in_which_no_deed_is_done(self):
        text = "size 9\nfor i 1 10\nfor j 1 0\na[0] = 1\nend\nend"
        self.assertEqual(turns(read(text), 10), [])
        self.refused(read(text), 9)
        text = "size 9\nfor i 1 10\nfor j 1 10\nfor k 1 0\na[0] = 1\nend\nend\nend"
        self.assertEqual(turns(read(text), 110), [])
        self.refused(read(text), 109)

    def test_nought(self):
        self.assertEqual(turns(read("size 9\nfor i 1 0\na[0] = 1\nend"), 0), [])
        self.refused(read("size 9\na[0] = 1"), 0)
        self.refused(read("size 9\nfor i 1 1\nfor j 1 0\na[0] = 1\nend\nend"), 0)

    def test_very_many_values_are_not_gone_through(self):
        most = "9" * 18
        for text in (f"size 9\nfor i 0 {most}\na[i] = 1\nend",
                     f"size 9\nfor i -{most} {most}\na[i] = 1\nend",
                     f"size 9\nfor i 0 {most}\nfor j 1 0\na[i] = 1\nend\nend",
                     f"size 9\nfor i 0 3\nfor j 0 {most}\na[i] = 1\nend\nend",
                     f"size 9\nfor i 0 {most}\nfor j 0 {most}\nfor k 0 {most}\na[i] = 1\nend\nend\nend",
                     f"size 9\na[0] = 1\nfor i 0 2\na[0] = 1\nend\nfor i -{most} 0\na[0] = 1\nend",
                     f"size 9\nfor i 0 1\nfor j i-{most} i\nfor k 1 0\na[0] = 1\nend\nend\nend"):
            for told in (0, 1, 10, 10000, 10 ** 17):
                with self.subTest(text=text, told=told):
                    self.refused(read(text), told)

    def test_many_deeds_in_a_loop_of_many_values(self):
        deeds = "a[0] = 1\n" * 6
        self.refused(read(f"size 9\nfor i 1 {'9' * 18}\n{deeds}end"), 7 * GREATEST - 1)

    def test_a_great_number_and_still_more_turns(self):
        for text in ("size 9\nfor i 1 1000000000\nfor j 1 1000000000\na[i] = j\nend\nend",
                     "size 9\nfor i 1 1000\nfor j i 1000000000\na[i] = j\nb[i] = j\nend\na[i] = 1\nend"):
            self.refused(read(text), 10 ** 12)

    def test_it_is_a_refusal_of_its_own(self):
        try:
            turns(read("size 9\na[0] = 1"), 0)
        except FurrowError as error:
            self.assertIs(type(error), TooMany)


class Done(unittest.TestCase):
    def test_what_python_tells_of_the_same_program(self):
        chance = random.Random(4)
        for text in TEXTS:
            program = read(text)
            tables = sorted({(deed.table, len(deed.spots)) for deed in program.deeds})
            for n in range(5):
                cells = {(table, tuple(chance.randrange(-3, 6) for n in range(many))):
                         chance.randrange(97) for table, many in tables for n in range(4)}
                with self.subTest(text=text, cells=cells):
                    found = done(program, turns(program, 10 ** 6), cells)
                    self.assertEqual(found, Told(text, cells).cells)

    def test_kinds(self):
        for text in TEXTS:
            program = read(text)
            found = done(program, turns(program, 10 ** 6), {})
            self.assertIs(type(found), dict)
            for (table, place), number in found.items():
                self.assertEqual((type(table), type(place), type(number)), (str, tuple, int))
                self.assertTrue(0 < number < 97)

    def test_no_turns(self):
        program = read("size 9\na[0] = 5")
        self.assertEqual(done(program, [], {}), {})
        self.assertEqual(done(program, [], {("a", (0,)): 4}), {("a", (0,)): 4})

    def test_turns_twice_and_in_any_order(self):
        program = read("size 97\nfor i 1 3\na[0] = a[0]*10+i\nend")
        three, two, one = (0, (3,)), (0, (2,)), (0, (1,))
        for order, number in (((one, two, three), 26), ((three, two, one), 30), ((two, two), 22),
                              ((one,), 1), ((three, one, three, one), 3131 % 97)):
            self.assertEqual(done(program, list(order), {}), {("a", (0,)): number})

    def test_each_turn_sees_the_cells_as_they_are_then(self):
        program = read("size 97\na[0] = a[0]+1\nb[0] = a[0]*2")
        zero, one = (0, ()), (1, ())
        self.assertEqual(done(program, [zero, one], {}), {("a", (0,)): 1, ("b", (0,)): 2})
        self.assertEqual(done(program, [one, zero], {}), {("a", (0,)): 1})
        self.assertEqual(done(program, [zero, zero, one, zero], {}), {("a", (0,)): 3, ("b", (0,)): 4})

    def test_a_cell_that_is_not_there_holds_nought(self):
        program = read("size 97\na[0] = 7-b[3]")
        self.assertEqual(done(program, [(0, ())], {}), {("a", (0,)): 7})
        self.assertEqual(done(program, [(0, ())], {("b", (3,)): 0}), {("a", (0,)): 7})
        self.assertEqual(done(program, [(0, ())], {("b", (3,)): 9}),
                         {("a", (0,)): 95, ("b", (3,)): 9})

    def test_a_cell_that_comes_to_nought_is_gone(self):
        program = read("size 7\na[0] = a[0]*2+b[0]")
        self.assertEqual(done(program, [(0, ())], {("a", (0,)): 3, ("b", (0,)): 1}), {("b", (0,)): 1})
        self.assertEqual(done(program, [(0, ())] * 2, {("a", (0,)): 3, ("b", (0,)): 1}),
                         {("a", (0,)): 1, ("b", (0,)): 1})

    def test_the_beginning_is_taken_by_its_rests(self):
        program = read("size 7\na[0] = b[0]*b[0]")
        for number, rest in ((0, 0), (6, 6), (7, 0), (8, 1), (-1, 6), (-7, 0), (-8, 6), (700, 0),
                             (10 ** 40 - 1, (10 ** 40 - 1) % 7), (1 - 10 ** 40, (1 - 10 ** 40) % 7)):
            held = {("b", (0,)): rest, ("a", (0,)): rest * rest % 7}
            held = {cell: n for cell, n in held.items() if n}
            with self.subTest(number=number):
                self.assertEqual(done(program, [(0, ())], {("b", (0,)): number}), held)

    def test_cells_of_which_no_deed_speaks(self):
        program = read("size 7\na[0] = 1")
        cells = {("q", (1, 2, 3)): 5, ("q", (-4,)): -1, ("a", (9,)): 14, ("z", (GREATEST,)): 8}
        for order, more in (([], {}), ([(0, ())], {("a", (0,)): 1})):
            self.assertEqual(done(program, order, cells),
                             {("q", (1, 2, 3)): 5, ("q", (-4,)): 6, ("z", (GREATEST,)): 1, **more})

    def test_the_least_size_and_the_greatest(self):
        for size in (2, 3, GREATEST):
            program = Program(size, [
                Deed((), (), (), "a", (("", 0),), Joined("-", Cell("b", (("", 0),)), Number(1)), (0,)),
                Deed((), (), (), "b", (("", 1),), Joined("*", Cell("a", (("", 0),)),
                                                        Cell("a", (("", 0),))), (1,))])
            found = done(program, [(0, ()), (1, ())], {})
            self.assertEqual(found, {("a", (0,)): size - 1, ("b", (1,)): 1})
            found = done(program, [(0, ())], {("b", (0,)): 10 ** 40 - 1})
            held = {("a", (0,)): (10 ** 40 - 2) % size, ("b", (0,)): (10 ** 40 - 1) % size}
            self.assertEqual(found, {cell: n for cell, n in held.items() if n})

    def test_it_is_exact_with_forty_of_the_greatest_numbers(self):
        term = Number(GREATEST)
        for n in range(39):
            term = Joined("*", term, Cell("a", (("", 0),)))
        program = Program(GREATEST - 1, [Deed((), (), (), "a", (("", 0),), term, (0,))])
        self.assertEqual(done(program, [(0, ())], {("a", (0,)): 10 ** 40 - 1}),
                         {("a", (0,)): pow(10 ** 40 - 1, 39, GREATEST - 1)})

    def test_names_stand_for_the_values_of_the_turn(self):
        program = Program(97, [Deed(("i", "j"), (("", 0),) * 2, (("", 9),) * 2, "a",
                                    (("j", -5), ("i", 1)), Joined("-", Value("i"), Value("j")),
                                    (0, 0, 0))])
        self.assertEqual(done(program, [(0, (2, 9))], {}), {("a", (4, 3)): 90})
        self.assertEqual(done(program, [(0, (9, 2))], {}), {("a", (-3, 10)): 7})
        self.assertEqual(done(program, [(0, (3, 3))], {("a", (-2, 4)): 8}), {})

    def test_places_below_nought_and_far_away(self):
        program = read(f"size 97\nfor i -3 -3\na[i-{'9' * 18}] = i\nend")
        self.assertEqual(done(program, turns(program, 2), {}), {("a", (-3 - GREATEST,)): 94})


class NothingIsKept(unittest.TestCase):
    TEXT = TEXTS[10]

    def test_asked_twice_and_with_others_between(self):
        program, other = read(self.TEXT), read(TEXTS[3])
        cells = {("a", (0,)): 5, ("b", (1,)): 80}
        first = turns(program, 10 ** 4)
        left = done(program, first, cells)
        with self.assertRaises(TooMany):
            turns(program, 3)
        done(other, turns(other, 100), {("a", (0,)): 50})
        self.assertEqual(turns(program, 10 ** 4), first)
        self.assertEqual(done(program, first, cells), left)

    def test_what_is_handed_in_is_not_changed(self):
        program = read(self.TEXT)
        deeds = list(program.deeds)
        order = turns(program, 10 ** 4)
        cells = {("a", (0,)): 500, ("b", (1,)): -80, ("c", (1,)): 97, ("a", (1,)): 3}
        kept_order, kept_cells = list(order), list(cells.items())
        done(program, order, cells)
        self.assertEqual(order, kept_order)
        self.assertEqual(list(cells.items()), kept_cells)
        self.assertEqual(program.deeds, deeds)
        self.assertEqual(program.size, 97)

    def test_what_is_told_is_the_askers_own(self):
        program = read(self.TEXT)
        first = turns(program, 10 ** 4)
        kept = list(first)
        cells = {("z", (0,)): 5}
        left = done(program, first, cells)
        held = dict(left)
        first.reverse()
        first.pop()
        left[("z", (0,))] = 1
        left.pop(("a", (0,)), None)
        self.assertEqual(turns(program, 10 ** 4), kept)
        self.assertEqual(cells, {("z", (0,)): 5})
        self.assertEqual(done(program, kept, cells), held)

    def test_cells_changed_behind_the_call(self):
        program = read("size 9\na[0] = 1")
        cells = {("b", (0,)): 5}
        for order in ([], [(0, ())]):
            left = done(program, order, cells)
            self.assertIsNot(left, cells)
            kept = dict(left)
            cells[("b", (0,))] = 6
            cells[("c", (0,))] = 6
            self.assertEqual(left, kept)
            cells = {("b", (0,)): 5}

    def test_a_deed_taken_out_and_the_program_asked_as_it_then_is(self):
        program = read("size 97\nfor i 0 1\na[i] = 1\nfor j 0 1\nb[j] = 2\nend\nend\nc[0] = 3")
        self.assertEqual(len(turns(program, 13)), 7)
        taken = program.deeds.pop(1)
        found = turns(program, 5)
        self.assertEqual(found, [(0, (0,)), (0, (1,)), (1, ())])
        self.assertEqual(done(program, found, {}), {("a", (0,)): 1, ("a", (1,)): 1, ("c", (0,)): 3})
        with self.assertRaises(TooMany):
            turns(program, 4)
        program.deeds.pop(0)
        self.assertEqual(turns(program, 1), [(0, ())])
        program.deeds.insert(0, taken)
        self.assertEqual(len(turns(program, 11)), 5)

    def test_the_list_of_deeds_is_changed_behind_the_call(self):
        program = read(self.TEXT)
        found = turns(program, 10 ** 4)
        kept = list(found)
        program.deeds.clear()
        self.assertEqual(found, kept)


if __name__ == "__main__":
    unittest.main()
