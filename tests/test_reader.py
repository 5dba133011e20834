"""Points 9, 10, 11 and 2: texts, read to programs, and those that are refused."""

import random
import unittest

from furrow.deeds import Deed, Program
from furrow.errors import FurrowError, NoText
from furrow.reader import read
from furrow.terms import Cell, Joined, Number, Term, Value
from tests.helper import told, told_term

GREATEST = 10 ** 18 - 1
EIGHTEEN = "9" * 18
NINETEEN = "1" + "0" * 18


def term_read(text):
    """What a term's text is read to, in the loops i, j and k."""
    program = read("\n".join(("size 97", "for i 0 9", "for j 0 9", "for k 0 9",
                              "z[0] = " + text, "end", "end", "end")))
    return program.deeds[0].term


def spots_read(text):
    """What a cell's brackets are read to, in the loops i and j."""
    program = read("\n".join(("size 97", "for i 0 9", "for j 0 9", "a" + text + " = 0",
                              "end", "end")))
    return program.deeds[0].spots


class Refusals(unittest.TestCase):
    def refused(self, text, line):
        with self.subTest(text=text):
            try:
                read(text)
            except NoText as error:
                self.assertEqual(error.line, line)
                self.assertIs(type(error.line), int)
                return
            self.fail("not refused")

    def refused_rows(self, rows, line):
        self.refused("\n".join(rows), line)

    def refused_row(self, row, ahead=("size 9",), behind=("a[0] = 1",)):
        """The row is refused where it stands, also with another wrong row behind it."""
        line = len(ahead) + 1
        self.refused_rows(tuple(ahead) + (row,) + tuple(behind), line)
        self.refused_rows(tuple(ahead) + (row,) + tuple(behind) + ("?", "end end"), line)
        self.refused_rows(tuple(ahead) + ("", " ; more", row) + tuple(behind), line + 2)
        self.refused_rows(tuple(ahead) + (row,), line)

    def let_be(self, text):
        with self.subTest(text=text):
            self.assertIsInstance(read(text), Program)


PROGRAM = """size 97 ; the size
; a remark alone

for i 0 9
  for j i -1;a remark
    a[i][j] = a[i-1][j+2] + b[ - 3 ] * i
  end
  b[i+0] = 5
end

   c[7] = (j[0] - 2) - 1
"""


class Ordinary(unittest.TestCase):
    def test_a_program(self):
        term = ("+", ("cell", "a", (("i", -1), ("j", 2))), ("*", ("cell", "b", (("", -3),)), "i"))
        self.assertEqual(told(read(PROGRAM)), (97, [
            (("i", "j"), (("", 0), ("i", 0)), (("", 9), ("", -1)),
             "a", (("i", 0), ("j", 0)), term, (0, 0, 0)),
            (("i",), (("", 0),), (("", 9),), "b", (("i", 0),), 5, (0, 1)),
            ((), (), (), "c", (("", 7),), ("-", ("-", ("cell", "j", (("", 0),)), 2), 1), (1,)),
        ]))

    def test_kinds(self):
        program = read(PROGRAM)
        self.assertIs(type(program), Program)
        self.assertIs(type(program.size), int)
        self.assertIs(type(program.deeds), list)
        for deed in program.deeds:
            self.assertIs(type(deed), Deed)
            for part in (deed.names, deed.lows, deed.highs, deed.spots, deed.path):
                self.assertIs(type(part), tuple)
            for spot in deed.lows + deed.highs + deed.spots:
                self.assertIs(type(spot), tuple)
                self.assertEqual([type(part) for part in spot], [str, int])
            self.assertEqual({type(number) for number in deed.path}, {int})
            self.assertIs(type(deed.table), str)
            self.assertIsInstance(deed.term, Term)

    def test_the_shortest_program(self):
        self.assertEqual(told(read("size 2\na[0]=0")),
                         (2, [((), (), (), "a", (("", 0),), 0, (0,))]))

    def test_paths(self):
        rows = ("size 5", "a[0] = 1", "for i 0 1", "for j 0 1", "a[1] = 1", "a[2] = 1", "end",
                "a[3] = 1", "for j 0 1", "a[4] = 1", "end", "end", "a[5] = 1")
        self.assertEqual([deed.path for deed in read("\n".join(rows)).deeds],
                         [(0,), (1, 0, 0), (1, 0, 1), (1, 1), (1, 2, 0), (2,)])

    def test_loops_side_by_side_of_one_name(self):
        rows = ("size 5", "for i 0 1", "a[i] = 1", "end", "for i 2 i1", "a[i] = 2", "end")
        with self.assertRaises(NoText):
            read("\n".join(rows))
        program = read("\n".join(rows).replace("i1", "3"))
        self.assertEqual([(deed.names, deed.lows, deed.path) for deed in program.deeds],
                         [(("i",), (("", 0),), (0, 0)), (("i",), (("", 2),), (1, 0))])

    def test_a_name_is_free_again_behind_its_end(self):
        rows = ("size 5", "for i 0 1", "for j 0 i", "a[j] = 1", "end", "for j i 3",
                "for k j i", "a[k] = j", "end", "end", "end", "for j 0 1", "a[j] = 1", "end")
        program = read("\n".join(rows))
        self.assertEqual([deed.names for deed in program.deeds],
                         [("i", "j"), ("i", "j", "k"), ("j",)])
        self.assertEqual(program.deeds[1].lows, (("", 0), ("i", 0), ("j", 0)))
        self.assertEqual(program.deeds[1].highs, (("", 1), ("", 3), ("i", 0)))


class Rows(Refusals):
    def test_remarks_blanks_and_empty_rows(self):
        plain = told(read("size 9\nfor i 0 4\na[i] = i\nend"))
        for text in ("size 9;\nfor i 0 4;x\na[i] = i;;\nend;;x;",
                     "\n\n  \n;\n ; for\nsize 9\n\nfor i 0 4\n;end\na[i] = i\n\nend\n\n  \n;",
                     "   size   9   \n  for   i  0    4  \n a[i] = i   \n    end    ",
                     "size 9\nfor i 0 4\na[i] = i\nend\n"):
            with self.subTest(text=text):
                self.assertEqual(told(read(text)), plain)

    def test_a_remark_takes_the_rest_of_its_row_away(self):
        self.refused("size 9\na[0] ; = 1", 2)
        self.refused("size 9\na[0] = 1 + ; 1", 2)
        self.refused("size ; 9\na[0] = 1", 1)
        self.refused("size 9\n; a[0] = 1", 3)
        self.assertEqual(told_term(read("size 9\na[0] = 1 ; + 1").deeds[0].term), 1)

    def test_a_blank_at_any_place_of_a_deeds_row(self):
        row = "ab[ij-12][-3]=ab[ij+40][7]*(ij-105)+ij"
        ahead, behind = "size 9\nfor ij 0 4\n", "\nend"
        plain = told(read(ahead + row + behind))
        for n in range(len(row) + 1):
            for blanks in (" ", "   "):
                with self.subTest(n=n):
                    blanked = row[:n] + blanks + row[n:]
                    self.assertEqual(told(read(ahead + blanked + behind)), plain)
        self.assertEqual(told(read(ahead + " ".join(row) + behind)), plain)

    def test_the_first_word_says_which_row_it_is(self):
        # With the blanks left out these would be right deeds' rows.
        for row in ("for ms[0] = 1", "end s[0] = 1", "size s[0] = 1"):
            self.refused_row(row)
            self.let_be("size 9\n" + row.replace(" ", ""))
            self.let_be("size 9\n" + row[0] + " " + row[1:].replace(" ", ""))

    def test_words_that_only_begin_like_those_of_rows(self):
        for row in ("fori 0 4", "forx i 0 4", "ends", "sizes 9", "For i 0 4", "END"):
            self.refused_row(row)

    def test_a_row_word_with_a_blank_in_it_is_none(self):
        self.refused_row("e nd", ahead=("size 9", "for i 0 4", "a[i] = 1"))
        self.refused_row("f or i 0 4")
        self.refused_row("s ize 9", ahead=())

    def test_rows_are_counted_from_one_with_those_passed_over(self):
        self.refused("?", 1)
        self.refused("\n?", 2)
        self.refused("size 9\n\n; x\n\n?\n", 5)
        self.refused("\n\n\nsize 9\n?\n?", 5)

    def test_other_parts_of_rows_are_not_parted_by_other_signs(self):
        self.refused_row("size,9", ahead=())
        self.refused_row("for i,0,4")
        self.refused_row("a[0] = 1, 2")


class Sizes(Refusals):
    def test_the_least_and_the_greatest(self):
        self.assertEqual(read("size 2\na[0] = 1").size, 2)
        self.assertEqual(read("size " + EIGHTEEN + "\na[0] = 1").size, GREATEST)

    def test_beyond_them(self):
        for number in ("0", "1", NINETEEN, "9" * 19, "-2", "-0", "02", "00", "+2", "2.0", "i", "x2"):
            self.refused_row("size " + number, ahead=())

    def test_other_rows_where_the_size_is_due(self):
        for row in ("size", "size 9 9", "size 9 x", "size9", "Size 9", "a[0] = 1", "for i 0 4",
                    "end", "9", "9 size", "plan", "size = 9", "size [0] = 1"):
            self.refused_row(row, ahead=())

    def test_a_second_size_row(self):
        for row in ("size 9", "size 10", "size"):
            self.refused_row(row)
            self.refused_row(row, ahead=("size 9", "a[0] = 1"))
            self.refused_row(row, ahead=("size 9", "for i 0 4"))


class Bounds(Refusals):
    def bounds_read(self, low, high):
        rows = ("size 9", "for i 0 4", f"for j {low} {high}", "a[j] = 1", "end", "end")
        deed = read("\n".join(rows)).deeds[0]
        return (deed.lows[1], deed.highs[1])

    def test_all_forms(self):
        for text, spot in (("0", ("", 0)), ("7", ("", 7)), ("-7", ("", -7)), ("i", ("i", 0)),
                           ("i+0", ("i", 0)), ("i-0", ("i", 0)), ("i+12", ("i", 12)),
                           ("i-12", ("i", -12)), (EIGHTEEN, ("", GREATEST)),
                           ("-" + EIGHTEEN, ("", -GREATEST)), ("i+" + EIGHTEEN, ("i", GREATEST)),
                           ("i-" + EIGHTEEN, ("i", -GREATEST))):
            with self.subTest(text=text):
                self.assertEqual(self.bounds_read(text, "3"), (spot, ("", 3)))
                self.assertEqual(self.bounds_read("3", text), (("", 3), spot))

    def test_a_high_bound_below_the_low_one_is_let_be(self):
        self.assertEqual(self.bounds_read("5", "-5"), (("", 5), ("", -5)))

    def test_wrong_forms(self):
        for text in ("-0", "+1", "00", "01", "-01", NINETEEN, "-" + NINETEEN, "i+" + NINETEEN,
                     "i-" + NINETEEN, "i+01", "-i", "i+-1", "i--1", "1+i", "1+1", "i+i", "i*2",
                     "(1)", "(i)", "a[0]", "I", "abcdefghi", "for", "end", "size", "?"):
            for row in (f"for j {text} 3", f"for j 3 {text}"):
                self.refused_row(row, ahead=("size 9", "for i 0 4"))

    def test_the_number_of_words(self):
        for row in ("for", "for j", "for j 0", "for j 0 4 5", "for j 0 4 end", "for j 0 i + 1",
                    "for j - 1 4", "for j i +1 4"):
            self.refused_row(row, ahead=("size 9", "for i 0 4"))

    def test_names_of_loops(self):
        for name in ("j", "abcdefgh", "plan", "fors", "x"):
            self.let_be(f"size 9\nfor {name} 0 4\na[{name}] = 1\nend")
        for name in ("abcdefghi", "for", "end", "size", "J", "j1", "1", "j_", "a[0]", "-j", "(j)"):
            self.refused_row(f"for {name} 0 4")

    def test_the_name_of_a_loop_round_it(self):
        self.refused_row("for i 0 4", ahead=("size 9", "for i 0 4"))
        self.refused_row("for i 0 4", ahead=("size 9", "for i 0 4", "for j 0 4"))
        self.refused_row("for j 0 4", ahead=("size 9", "for i 0 4", "for j 0 4", "a[0] = 1"))

    def test_a_name_of_no_loop_round_it(self):
        for bounds in ("k 4", "0 k", "k+1 4", "0 k-1", "j 4", "0 j", "0 j+1"):
            self.refused_row("for j " + bounds, ahead=("size 9", "for i 0 4"))
        self.refused_row("for i 0 i")
        # The loop j isn't open any more.
        ahead = ("size 9", "for i 0 4", "for j 0 4", "a[0] = 1", "end")
        self.refused_row("for k j 4", ahead=ahead)
        self.refused_row("for k i j", ahead=ahead)
        # A table's name is none of a loop.
        self.refused_row("for j a 4", ahead=("size 9", "a[0] = 1"))

    def test_three_loops_and_a_fourth(self):
        three = ("size 9", "for i 0 4", "for j 0 4", "for k 0 4")
        self.let_be("\n".join(three + ("a[i][j][k] = 1", "end", "end", "end")))
        self.refused_row("for m 0 4", ahead=three)
        self.refused_row("for m 0 4", ahead=three + ("a[0] = 1",))
        self.let_be("\n".join(three + ("a[0] = 1", "end", "for k 0 4", "a[k] = 1", "end",
                                       "end", "end", "for m 0 4", "a[m] = 1", "end")))


class Ends(Refusals):
    def test_where_no_loop_stands_open(self):
        self.refused_row("end")
        self.refused_row("end", ahead=("size 9", "a[0] = 1"))
        self.refused_row("end", ahead=("size 9", "for i 0 4", "a[0] = 1", "end"))

    def test_where_the_loop_has_no_item(self):
        self.refused_row("end", ahead=("size 9", "for i 0 4"))
        self.refused_row("end", ahead=("size 9", "a[0] = 1", "for i 0 4"))
        self.refused_row("end", ahead=("size 9", "for i 0 4", "a[0] = 1", "for j 0 4"))
        self.refused_row("end", ahead=("size 9", "for i 0 4", "for j 0 4", "a[0] = 1", "end",
                                       "for j 0 4"))

    def test_a_loop_alone_is_an_item(self):
        self.let_be("size 9\nfor i 0 4\nfor j 0 4\na[0] = 1\nend\nend")

    def test_other_forms(self):
        for row in ("end end", "end i", "end 0", "end = 1"):
            self.refused_row(row, ahead=("size 9", "for i 0 4", "a[0] = 1"))


class Lacking(Refusals):
    def test_no_size_row(self):
        self.refused("", 2)
        self.refused("\n", 3)
        self.refused("\n\n", 4)
        self.refused("   ", 2)
        self.refused("; size 9", 2)
        self.refused(";\n  \n; a[0] = 1\n", 5)

    def test_no_deed(self):
        self.refused("size 9", 2)
        self.refused("size 9\n", 3)
        self.refused("\nsize 9\n; a[0] = 1\n\n", 6)

    def test_no_end(self):
        self.refused("size 9\nfor i 0 4\na[0] = 1", 4)
        self.refused("size 9\nfor i 0 4\na[0] = 1\n", 5)
        self.refused("size 9\nfor i 0 4\nfor j 0 4\na[0] = 1\nend", 6)
        self.refused("size 9\na[0] = 1\nfor i 0 4\na[0] = 1 ;end", 5)

    def test_no_deed_and_no_end(self):
        self.refused("size 9\nfor i 0 4", 3)
        self.refused("size 9\na[0] = 1\nfor i 0 4\n\n", 6)

    def test_a_wrong_row_is_told_ahead_of_what_lacks(self):
        self.refused("size 9\nfor i 0 4\n?", 3)
        self.refused("?", 1)


class Cells(Refusals):
    def test_all_forms_of_spots(self):
        self.assertEqual(spots_read("[0]"), (("", 0),))
        self.assertEqual(spots_read("[i][j-1][-3]"), (("i", 0), ("j", -1), ("", -3)))
        self.assertEqual(spots_read("[i+0][i-0]"), (("i", 0), ("i", 0)))
        self.assertEqual(spots_read("[12][j+30]"), (("", 12), ("j", 30)))
        self.assertEqual(spots_read(f"[{EIGHTEEN}][-{EIGHTEEN}][i+{EIGHTEEN}]"),
                         (("", GREATEST), ("", -GREATEST), ("i", GREATEST)))
        self.assertEqual(spots_read(f"[i-{EIGHTEEN}]"), (("i", -GREATEST),))

    def test_wrong_cells(self):
        loops = ("size 9", "for i 0 4", "for j 0 4")
        for cell in ("a", "a[]", "a[0", "a0]", "a[0]]", "a[[0]]", "a[0][", "a[0][]", "a[]0", "[0]",
                     "a[0]b", "a[0]b[0]", "a[0]1", "1[0]", "a1[0]", "A[0]", "abcdefghi[0]",
                     "for[0]", "end[0]", "size[0]", "a[-0]", "a[00]", "a[01]", "a[+1]",
                     f"a[{NINETEEN}]", f"a[i+{NINETEEN}]", f"a[-{NINETEEN}]", "a[-i]", "a[i+j]",
                     "a[1+i]", "a[i*2]", "a[i--1]", "a[i+-1]", "a[(i)]", "a[a[0]]", "a[i,j]",
                     "a[12", "a[i+12", "a[0][12", "a[ij", "a[k]", "a[0][k+1]", "a[a]", "a[0][0][0][0]",
                     "a[0]-[0]", "a(0)", "a[i]]["):
            self.refused_row(cell + " = 1", ahead=loops)
            self.refused_row("z[0] = " + cell, ahead=loops)
            self.refused_row("z[0] = 1 + " + cell, ahead=loops)
            self.refused_row("z[0] = (" + cell + ") * 2", ahead=loops)

    def test_one_to_three_spots_of_each_table(self):
        self.let_be("size 9\na[0] = b[0][0] + c[0][0][0] + b[1][1]\nc[1][1][1] = a[5]")

    def test_a_number_of_spots_unlike_an_earlier_one(self):
        for row in ("a[0][0] = 1", "z[0] = a[0][0]", "z[0] = 1 + a[0][0][0]", "z[0] = (a[0][0])"):
            self.refused_row(row, ahead=("size 9", "a[0] = 1"))
            self.refused_row(row, ahead=("size 9", "y[0] = a[0]"))
            self.refused_row(row, ahead=("size 9", "for i 0 4", "y[0] = 2 * a[0]", "end"))

    def test_a_number_of_spots_unlike_one_in_the_same_row(self):
        for row in ("a[0] = a[0][0]", "a[0][0] = a[0]", "a[0] = b[0] + b[0][0]",
                    "a[0] = b[0][0] * (b[0][0] - b[0])", "a[0] = b[0] + a[0][0]"):
            self.refused_row(row)

    def test_the_earlier_row_is_right(self):
        self.refused_rows(("size 9", "a[0] = b[0]", "c[0] = 1", "b[0][0] = 1", "a[0][0] = 1"), 4)

    def test_names_of_each_letter(self):
        for name in "abcdefghijklmnopqrstuvwxyz":
            program = read(f"size 9\nfor {name} 0 4\n{name}[{name}] = {name}\nend")
            self.assertEqual(told(program)[1][0][3:6], (name, ((name, 0),), name))

    def test_names_of_tables(self):
        for name in ("a", "abcdefgh", "i", "plan", "fors", "ends", "sizes"):
            self.let_be(f"size 9\nfor i 0 4\n{name}[i] = {name}[i-1]\nend")

    def test_a_name_with_a_bracket_behind_it_is_a_tables(self):
        # The table i is another thing than the loop i, with and without blanks.
        program = read("size 9\nfor i 0 4\ni[i] = i[i-1] * i + i [i+1]\nend")
        term = ("+", ("*", ("cell", "i", (("i", -1),)), "i"), ("cell", "i", (("i", 1),)))
        self.assertEqual(program.deeds[0].table, "i")
        self.assertEqual(told_term(program.deeds[0].term), term)
        self.refused_row("a[0] = i[0][0]", ahead=("size 9", "for i 0 4", "i[i] = 1"))


class Deeds(Refusals):
    def test_six_deeds_and_a_seventh(self):
        six = ("size 9",) + ("a[0] = 1",) * 6
        self.assertEqual(len(read("\n".join(six)).deeds), 6)
        self.refused_row("a[0] = 1", ahead=six)
        nest = ("size 9", "for i 0 4", "a[0] = 1", "a[0] = 1", "for j 0 4", "a[0] = 1", "end",
                "end", "a[0] = 1", "for k 0 4", "a[0] = 1", "a[0] = 1")
        self.assertEqual(len(read("\n".join(nest + ("end",))).deeds), 6)
        self.refused_row("a[0] = 1", ahead=nest)
        self.refused_row("a[0] = 1", ahead=nest + ("end",))

    def test_wrong_forms(self):
        for row in ("a[0]", "a[0] =", "= 1", "=", "a[0] = 1 = 1", "a[0] == 1", "1 = a[0]",
                    "i = 1", "(a[0]) = 1", "a[0] + 0 = 1", "a[0] := 1", "a[0] = 1 end", "?", "plan",
                    "a[0]; = 1", "a[0] 1", "+ a[0] = 1", "a[0] += 1"):
            self.refused_row(row, ahead=("size 9", "for i 0 4"))

    def test_names_of_no_loop_round_it(self):
        for row in ("a[j] = 1", "a[j+1] = 1", "a[0] = j", "a[0] = b[j]", "a[0] = b[0][j-1]",
                    "a[0] = i + 2 * (i - j)", "a[0] = a"):
            self.refused_row(row, ahead=("size 9", "for i 0 4"))
            self.refused_row(row, ahead=("size 9", "for j 0 4", "c[j] = 1", "end", "for i 0 4"))
            self.refused_row(row, ahead=("size 9", "for i 0 4", "for j 0 4", "c[j] = 1", "end"))
        self.refused_row("a[0] = i", ahead=("size 9", "for i 0 4", "c[i] = i", "end"))


class Terms(Refusals):
    def reads_to(self, text, term):
        with self.subTest(text=text):
            self.assertEqual(told_term(term_read(text)), term)

    def test_numbers_names_and_cells(self):
        self.reads_to("0", 0)
        self.reads_to("120", 120)
        self.reads_to(EIGHTEEN, GREATEST)
        self.reads_to("i", "i")
        self.reads_to("a[i]", ("cell", "a", (("i", 0),)))
        self.reads_to("a[i-1][3]", ("cell", "a", (("i", -1), ("", 3))))

    def test_kinds(self):
        for text, kind in (("7", Number), ("i", Value), ("a[0]", Cell), ("1+1", Joined),
                           ("(7)", Number), ("((i))", Value), ("(a[0])", Cell)):
            self.assertIs(type(term_read(text)), kind)
        self.assertIs(type(term_read("7").n), int)

    def test_from_the_left(self):
        self.reads_to("1-2-3", ("-", ("-", 1, 2), 3))
        self.reads_to("1-2+3", ("+", ("-", 1, 2), 3))
        self.reads_to("1+2-3", ("-", ("+", 1, 2), 3))
        self.reads_to("1*2*3", ("*", ("*", 1, 2), 3))

    def test_times_ahead_of_plus_and_minus(self):
        self.reads_to("1+2*3", ("+", 1, ("*", 2, 3)))
        self.reads_to("1*2+3", ("+", ("*", 1, 2), 3))
        self.reads_to("1-2*3-4", ("-", ("-", 1, ("*", 2, 3)), 4))
        self.reads_to("1*2-3*4*5+6",
                      ("+", ("-", ("*", 1, 2), ("*", ("*", 3, 4), 5)), 6))

    def test_brackets(self):
        self.reads_to("(1)", 1)
        self.reads_to("1-(2-3)", ("-", 1, ("-", 2, 3)))
        self.reads_to("(1+2)*3", ("*", ("+", 1, 2), 3))
        self.reads_to("3*(1+2)", ("*", 3, ("+", 1, 2)))
        self.reads_to("1*(2*3)", ("*", 1, ("*", 2, 3)))
        self.reads_to("(1-2)-(3-4)*(5)", ("-", ("-", 1, 2), ("*", ("-", 3, 4), 5)))
        self.reads_to("i-(j*(k-(1+2)))", ("-", "i", ("*", "j", ("-", "k", ("+", 1, 2)))))

    def test_a_plus_or_minus_in_a_cells_brackets_is_its_spots(self):
        self.reads_to("a[i-1]-1", ("-", ("cell", "a", (("i", -1),)), 1))
        self.reads_to("i-a[i+1]*j", ("-", "i", ("*", ("cell", "a", (("i", 1),)), "j")))
        self.reads_to("a[-1]", ("cell", "a", (("", -1),)))

    def test_brackets_many_deep(self):
        self.reads_to("(" * 40 + "i" + ")" * 40, "i")
        text, term = "1", 1
        for n in range(39):
            text, term = f"{n}-({text})", ("-", n, term)
        self.reads_to(text, term)
        text, term = "1", 1
        for n in range(39):
            text, term = f"({text})*{n}", ("*", term, n)
        self.reads_to(text, term)
        self.refused_row("z[0] = " + "(" * 40 + "1" + ")" * 39)
        self.refused_row("z[0] = " + "(" * 39 + "1" + ")" * 40)

    def test_terms_of_forty_parts(self):
        for sign in "+-*":
            term = 0
            for n in range(1, 40):
                term = (sign, term, n)
            self.reads_to(sign.join(str(n) for n in range(40)), term)
        pairs = "+".join(f"{n}*i" for n in range(20))
        term = ("*", 0, "i")
        for n in range(1, 20):
            term = ("+", term, ("*", n, "i"))
        self.reads_to(pairs, term)

    def test_the_longest_row(self):
        parts = ["a[i-111111111111111111][j+222222222222222222][k]"] * 40
        row = "+".join(parts)
        row += " " * (5990 - len(row))
        cell = ("cell", "a", (("i", -111111111111111111), ("j", 222222222222222222), ("k", 0)))
        term = cell
        for n in range(39):
            term = ("+", term, cell)
        self.reads_to(row, term)

    def test_wrong_terms(self):
        loops = ("size 9", "for i 0 4", "for j 0 4")
        for text in ("", "+", "-", "*", "1+", "1-", "1*", "+1", "*1", "1++1", "1**2", "1+*2",
                     "1/2", "1^2", "1,2", "()", "(", ")", "(1", "1)", "((1)", "(1))", ")1(",
                     "1(2)", "(1)2", "(1)(2)", "i(1)", "(1)i", "1i", "i1", "(+1)", "(1+)",
                     "1+(", "1+()", "[0]", "[i]", "(a)[0]", "a[0](1)", "(1)a[0]", "1a[0]",
                     "a[0]a[0]", "ia[0]]", "I", "abcdefghi", "for", "end", "size", "1+for",
                     NINETEEN, "9" * 19, "00", "01", "1+007", "1.5", "1e3", "'1'", "?"):
            self.refused_row("z[0] = " + text, ahead=loops)

    def test_a_sign_ahead_of_a_number(self):
        for text in ("-1", "-0", "-i", "-a[0]", "1+-1", "1--1", "1*-1", "(-1)", "1-(-1)", "-(1)",
                     "--1"):
            self.refused_row("z[0] = " + text, ahead=("size 9", "for i 0 4"))

    def test_terms_by_chance_have_the_worth_that_python_tells(self):
        chance = random.Random(5)
        values = {"i": 3, "j": -8, "k": 0}

        def some(parts):
            if parts == 1:
                return chance.choice(("0", "7", "12", "i", "j", "k"))
            left = chance.randrange(1, parts)
            text = some(left) + chance.choice("+-*") + some(parts - left)
            return f"({text})" if chance.random() < 0.4 else text

        for n in range(300):
            text = some(chance.randrange(1, 41))
            with self.subTest(text=text):
                self.assertEqual(term_read(text).worth(values, None), eval(text, {}, values))


class Chance(Refusals):
    """Texts made by chance, and the same with one row too many or too few."""

    def items(self, chance, names, room):
        """Rows of items, and the deeds in them as pairs of names and a path."""
        rows, deeds = [], []
        for number in range(chance.randrange(1, 4)):
            rows += chance.choice(([], [""], [" ; end"], ["   "]))
            blanks = " " * chance.randrange(3)
            if len(deeds) >= room:
                break
            if len(names) == 3 or chance.random() < 0.4:
                name = chance.choice(names + ("", ""))
                rows.append(f"{blanks}a[{name or 5}] = b[1][{name or -2}]{blanks}; a remark")
                deeds.append((names, (number,)))
                continue
            name = chance.choice([name for name in "ijkmn" if name not in names])
            bound = chance.choice(names + ("", ""))
            inner, found = self.items(chance, names + (name,), room - len(deeds))
            rows += [f"{blanks}for {name} {bound or -4} {bound or 7}"] + inner + [blanks + "end"]
            deeds += [(told_names, (number,) + path) for told_names, path in found]
        return rows, deeds

    def texts(self, seed):
        chance = random.Random(seed)
        for n in range(200):
            rows, deeds = self.items(chance, (), 6)
            yield chance, ["", "size 9"] + rows, deeds

    def test_names_and_paths(self):
        for chance, rows, deeds in self.texts(11):
            with self.subTest(rows=rows):
                program = read("\n".join(rows))
                self.assertEqual([(deed.names, deed.path) for deed in program.deeds], deeds)

    def test_the_first_wrong_row_is_told(self):
        wrong = ("?", "size 9", "for x 0", "for x 0 y", "a[0] = q", "a[0] =", "a[0] = a[0][0]",
                 "b[0] = b[0][0]", "end end", "z[0][0][0][0] = 1", "for x 0 x")
        for chance, rows, deeds in self.texts(12):
            at = chance.randrange(2, len(rows) + 1)
            spoiled = rows[:at] + [chance.choice(wrong)] + rows[at:]
            self.refused_rows(spoiled, at + 1)
            spoiled.insert(chance.randrange(at + 1, len(spoiled) + 1), chance.choice(wrong))
            self.refused_rows(spoiled, at + 1)

    def test_an_end_too_few_or_too_many(self):
        seen = 0
        for chance, rows, deeds in self.texts(13):
            self.refused_rows(rows + ["", "end", "end"], len(rows) + 2)
            ends = [n for n, row in enumerate(rows) if row.strip() == "end"]
            if ends and ends[-1] == max(n for n, row in enumerate(rows) if row.split(";")[0].strip()):
                seen += 1
                self.refused_rows(rows[:ends[-1]], ends[-1] + 1)
        self.assertGreater(seen, 20)


class NothingIsKept(unittest.TestCase):
    def test_asked_twice_and_with_others_between(self):
        first = read(PROGRAM)
        before = told(first)
        with self.assertRaises(FurrowError):
            read("size 9\nfor i 0 4\na[0][0][0] = 1")
        read("size 5\na[0][0][0] = b[0][0]")
        again = read(PROGRAM)
        self.assertEqual(told(again), before)
        self.assertEqual(told(first), before)

    def test_a_refusal_leaves_nothing_behind(self):
        for text in ("size 9\nfor i 0 4", "size 9\na[0][0] = ?", "size 9\na[0][0] = 1\n?"):
            with self.assertRaises(NoText):
                read(text)
            self.assertEqual(told(read("size 7\na[0] = 1"))[0], 7)
            with self.assertRaises(NoText) as caught:
                read("a[0] = 1")
            self.assertEqual(caught.exception.line, 1)

    def test_two_programs_have_lists_of_their_own(self):
        one, other = read(PROGRAM), read(PROGRAM)
        before = told(other)
        one.deeds.pop()
        one.deeds[0] = None
        self.assertEqual(told(other), before)
        self.assertEqual(told(read(PROGRAM)), before)


if __name__ == "__main__":
    unittest.main()
