"""Points 12 and 2: programs, written as texts."""

import itertools
import random
import unittest

from furrow.deeds import Deed, Program
from furrow.reader import read
from furrow.terms import Cell, Joined, Number, Value
from furrow.writer import written, written_term
from tests.helper import told, told_term

GREATEST = 10 ** 18 - 1
SIGNS = "+-*"


def loose(term, path=(0,)):
    """A deed in no loop."""
    return Deed((), (), (), "z", (("", 0),), term, path)


def read_again(text):
    rows = ("size 97", "for i 0 9", "for j 0 9", "z[0] = " + text, "end", "end")
    return read("\n".join(rows)).deeds[0].term


def without_a_pair(text):
    """The text with each one pair of its brackets ( ) left out."""
    opened, found = [], []
    for at, sign in enumerate(text):
        if sign == "(":
            opened.append(at)
        if sign == ")":
            start = opened.pop()
            found.append(text[:start] + text[start + 1:at] + text[at + 1:])
    return found


class Parts(unittest.TestCase):
    def test_numbers_names_and_cells(self):
        for term, text in ((Number(0), "0"), (Number(105), "105"), (Number(GREATEST), "9" * 18),
                           (Value("i"), "i"), (Value("abcdefgh"), "abcdefgh"),
                           (Cell("a", (("", 0),)), "a[0]"),
                           (Cell("i", (("i", 0), ("j", -1), ("", -3))), "i[i][j-1][-3]")):
            self.assertEqual(written_term(term), text)
            self.assertIs(type(written_term(term)), str)

    def test_spots(self):
        for spot, text in ((("", 0), "0"), (("", 7), "7"), (("", -7), "-7"), (("i", 0), "i"),
                           (("i", 1), "i+1"), (("i", -1), "i-1"), (("i", 20), "i+20"),
                           (("", GREATEST), "9" * 18), (("", -GREATEST), "-" + "9" * 18),
                           (("i", GREATEST), "i+" + "9" * 18),
                           (("i", -GREATEST), "i-" + "9" * 18)):
            with self.subTest(spot=spot):
                self.assertEqual(written_term(Cell("a", (spot,))), f"a[{text}]")
                self.assertEqual(told_term(read_again(f"a[{text}]")), ("cell", "a", (spot,)))

    def test_one_sign(self):
        for sign in SIGNS:
            self.assertEqual(written_term(Joined(sign, Number(1), Value("i"))), f"1{sign}i")


class Brackets(unittest.TestCase):
    def test_each_two_signs_with_the_inner_one_left(self):
        for outer, inner in itertools.product(SIGNS, repeat=2):
            text = written_term(Joined(outer, Joined(inner, Number(1), Number(2)), Number(3)))
            needed = outer == "*" and inner != "*"
            expected = f"(1{inner}2){outer}3" if needed else f"1{inner}2{outer}3"
            self.assertEqual(text, expected)

    def test_each_two_signs_with_the_inner_one_right(self):
        for outer, inner in itertools.product(SIGNS, repeat=2):
            text = written_term(Joined(outer, Number(1), Joined(inner, Number(2), Number(3))))
            needed = outer == "*" or inner != "*"
            expected = f"1{outer}(2{inner}3)" if needed else f"1{outer}2{inner}3"
            self.assertEqual(text, expected)

    def test_each_place_where_one_must_stand_and_where_none_may(self):
        for text in ("1+2+3", "1-2-3", "1-2+3", "1*2*3", "1*2+3*4", "1-2*3", "1+(2+3)", "1+(2-3)",
                     "1-(2+3)", "1-(2-3)", "(1+2)*3", "(1-2)*3", "1*(2+3)", "1*(2-3)",
                     "1*(2*3)", "(1+2)*(3-4)", "1*2*(3*4)", "1-(2-(3-4))", "(1+2+3)*4",
                     "1+2*(3*4)-5", "((1+2)*3+4)*5", "1*(2*(3*(4+5)))", "1+2*3*4", "(1+2)*3*4"):
            with self.subTest(text=text):
                self.assertEqual(written_term(read_again(text)), text)

    def test_brackets_that_are_not_needed_are_left_out(self):
        for text, plain in (("(1)", "1"), ("((i))", "i"), ("(a[i])", "a[i]"), ("(1+2)", "1+2"),
                            ("(1+2)+3", "1+2+3"), ("(1*2)+3", "1*2+3"), ("1+(2*3)", "1+2*3"),
                            ("(1*2)*3", "1*2*3"), ("(1-2)-3", "1-2-3"), ("1-(2*3)", "1-2*3"),
                            ("1*(2)", "1*2"), ("((1+2))*(3)", "(1+2)*3")):
            with self.subTest(text=text):
                self.assertEqual(written_term(read_again(text)), plain)

    def test_forty_parts_to_the_left_and_to_the_right(self):
        for sign in SIGNS:
            left, right = Number(0), Number(39)
            for n in range(1, 40):
                left = Joined(sign, left, Number(n))
                right = Joined(sign, Number(39 - n), right)
            self.assertEqual(written_term(left), sign.join(str(n) for n in range(40)))
            expected = f"{sign}(".join(str(n) for n in range(39)) + f"{sign}39" + ")" * 38
            self.assertEqual(written_term(right), expected)
            for term in (left, right):
                self.assertEqual(told_term(read_again(written_term(term))), told_term(term))

    def test_terms_by_chance_are_read_again_and_no_bracket_is_too_many(self):
        chance = random.Random(3)

        def some(parts):
            if parts == 1:
                return chance.choice((Number(chance.randrange(20)), Value("i"), Value("j"),
                                      Cell("a", (("i", chance.randrange(-3, 4)),)),
                                      Cell("b", (("", chance.randrange(-3, 4)), ("j", 0)))))
            left = chance.randrange(1, parts)
            return Joined(chance.choice(SIGNS), some(left), some(parts - left))

        for n in range(300):
            term = some(chance.randrange(1, 41))
            text = written_term(term)
            with self.subTest(text=text):
                self.assertNotIn(" ", text)
                self.assertEqual(told_term(read_again(text)), told_term(term))
                for less in without_a_pair(text):
                    self.assertNotEqual(told_term(read_again(less)), told_term(term))


TEXT = """size 97
a[0] = 1
for i 0 9
 for j i-1 i+2
  for k -5 j
   a[k] = a[k-1]*(i+j)
  end
  a[j+1] = 2
 end
 for j i -3
  b[i][j] = a[j]-1
 end
end
for i 0 0
 a[i] = i*i
end
c[-1][0][7] = 3"""


class Programs(unittest.TestCase):
    def test_the_shortest(self):
        text = written(Program(2, [loose(Number(0))]))
        self.assertEqual(text, "size 2\nz[0] = 0")
        self.assertIs(type(text), str)

    def test_the_greatest_size(self):
        self.assertEqual(written(Program(GREATEST, [loose(Number(0))])),
                         "size " + "9" * 18 + "\nz[0] = 0")

    def test_a_nest(self):
        self.assertEqual(written(read(TEXT)), TEXT)
        self.assertEqual(told(read(written(read(TEXT)))), told(read(TEXT)))

    def test_remarks_blanks_and_empty_rows_are_gone(self):
        rows = TEXT.replace(" = ", "=").replace("*", " * ").split("\n")
        text = "\n\n;x\n" + "\n\n  ; y\n".join("   " + row + " ; " + row for row in rows) + "\n \n"
        self.assertEqual(written(read(text)), TEXT)

    def test_loops_side_by_side_of_one_name_and_like_bounds_stay_two(self):
        text = "size 5\nfor i 0 4\n a[i] = 1\nend\nfor i 0 4\n a[i] = 2\nend"
        self.assertEqual(written(read(text)), text)
        text = "size 5\nfor i 0 4\n a[i] = 1\n b[i] = 2\nend"
        self.assertEqual(written(read(text)), text)

    def test_a_program_made_by_hand(self):
        term = Joined("-", Value("i"), Joined("+", Cell("a", (("i", -1), ("", 0))), Number(4)))
        deed = Deed(("i", "j"), (("", -2), ("i", 0)), (("", 5), ("i", 3)),
                    "a", (("j", 2), ("i", 0)), term, (1, 0, 0))
        program = Program(11, [loose(Number(1)), deed])
        text = ("size 11\nz[0] = 1\nfor i -2 5\n for j i i+3\n  a[j+2][i] = i-(a[i-1][0]+4)\n"
                " end\nend")
        self.assertEqual(written(program), text)
        self.assertEqual(told(read(text)), told(program))

    def test_written_programs_are_read_to_the_same(self):
        chance = random.Random(8)

        def items(names, room):
            rows, deeds = [], 0
            for n in range(chance.randrange(1, 4)):
                if deeds >= room:
                    break
                blanks = " " * len(names)
                if len(names) == 3 or chance.random() < 0.4:
                    rows.append(f"{blanks}a[{chance.choice(names + ['0'])}] = {deeds}")
                    deeds += 1
                    continue
                name = chance.choice([name for name in "ijkm" if name not in names])
                bound = chance.choice(names + ["-1"])
                inner, more = items(names + [name], room - deeds)
                rows += [f"{blanks}for {name} {bound} {bound}"] + inner + [blanks + "end"]
                deeds += more
            return rows, deeds

        for n in range(200):
            text = "\n".join(["size 9"] + items([], 6)[0])
            with self.subTest(text=text):
                program = read(text)
                self.assertEqual(written(program), text)
                self.assertEqual(told(read(written(program))), told(program))


class NothingIsKept(unittest.TestCase):
    def test_asked_twice_and_with_others_between(self):
        program = read(TEXT)
        first = written(program)
        written(read("size 3\nfor i 0 1\n q[i] = 1\nend"))
        written_term(program.deeds[1].term)
        self.assertEqual(written(program), first)

    def test_nothing_of_the_program_is_changed(self):
        program = read(TEXT)
        deeds, before = list(program.deeds), told(program)
        written(program)
        for deed in program.deeds:
            written_term(deed.term)
        self.assertEqual(program.deeds, deeds)
        self.assertEqual(told(program), before)

    def test_a_deed_taken_out_and_the_program_written_as_it_then_is(self):
        rows = TEXT.split("\n")
        # The rows that go with each deed: its own, and loops that are then without an item.
        gone = ((1,), (4, 5, 6), (7,), (9, 10, 11), (13, 14, 15), (16,))
        for k, numbers in enumerate(gone):
            program = read(TEXT)
            self.assertEqual(written(program), TEXT)
            program.deeds.pop(k)
            left = "\n".join(row for n, row in enumerate(rows) if n not in numbers)
            with self.subTest(k=k):
                self.assertEqual(written(program), left)
                self.assertEqual(written(read(left)), left)

    def test_a_deed_taken_out_between_two_loops_leaves_two(self):
        text = "size 5\nfor i 0 4\n a[i] = 1\nend\nb[0] = 1\nfor i 0 4\n a[i] = 1\nend"
        program = read(text)
        program.deeds.pop(1)
        self.assertEqual(written(program), text.replace("b[0] = 1\n", ""))

    def test_what_is_done_to_the_list_that_was_handed_in_changes_nothing(self):
        deeds = read(TEXT).deeds
        program = Program(97, deeds)
        deeds.pop()
        deeds.clear()
        self.assertEqual(written(program), TEXT)


if __name__ == "__main__":
    unittest.main()
