"""Points 17, 18 and 2: touches of a deed, and the bonds of loops and of a like place."""

import itertools
import unittest

from furrow.deeds import Deed, named, within
from furrow.reader import read
from furrow.terms import Cell, Joined, Number, Value, placed
from furrow.touch import like_bonds, loop_bonds, touches
from tests.helper import holds

GREATEST = 10 ** 18 - 1


def deed_of(row, loops=("i", "j", "k")):
    """A deed's row, read in loops from 0 to 9."""
    rows = ["size 97"] + [f"for {name} 0 9" for name in loops] + [row] + ["end"] * len(loops)
    return read("\n".join(rows)).deeds[0]


class Touches(unittest.TestCase):
    def test_its_own_cell_alone(self):
        for row in ("a[i] = 1", "a[i] = j+1", "a[i] = i*(j-k)"):
            self.assertEqual(touches(deed_of(row)), [(True, "a", (("i", 0),))])

    def test_first_the_written_one_then_the_read_ones_from_the_left(self):
        deed = deed_of("a[i][j] = b[0]*(c[k+1][-2][3]-a[i-1][j])+b[7]*i")
        self.assertEqual(touches(deed), [
            (True, "a", (("i", 0), ("j", 0))), (False, "b", (("", 0),)),
            (False, "c", (("k", 1), ("", -2), ("", 3))), (False, "a", (("i", -1), ("j", 0))),
            (False, "b", (("", 7),))])

    def test_one_cell_more_than_once(self):
        deed = deed_of("a[i] = a[i]*a[i]-(a[i]+b[0])-b[0]")
        self.assertEqual([(writes, table) for writes, table, spots in touches(deed)],
                         [(True, "a"), (False, "a"), (False, "a"), (False, "a"),
                          (False, "b"), (False, "b")])
        self.assertEqual({spots for writes, table, spots in touches(deed)[:4]}, {(("i", 0),)})

    def test_a_deed_in_no_loop(self):
        self.assertEqual(touches(deed_of("a[0] = a[0]+a[-4]", ())), [
            (True, "a", (("", 0),)), (False, "a", (("", 0),)), (False, "a", (("", -4),))])

    def test_forty_cells(self):
        deed = deed_of("z[i] = " + "*".join(f"t[{n}]" for n in range(40)))
        self.assertEqual(touches(deed),
                         [(True, "z", (("i", 0),))] + [(False, "t", (("", n),)) for n in range(40)])

    def test_kinds(self):
        found = touches(deed_of("a[i][j] = b[0]-a[i-1][j]"))
        self.assertIs(type(found), list)
        for touch in found:
            self.assertIs(type(touch), tuple)
            self.assertEqual([type(part) for part in touch], [bool, str, tuple])


class LoopBonds(unittest.TestCase):
    def test_no_loop(self):
        self.assertEqual(loop_bonds(deed_of("a[0] = 1", ()), 1), [])

    def test_one_loop_of_numbers(self):
        deed = Deed(("i",), (("", 3),), (("", 9),), "a", (("", 0),), Number(1), (0, 0))
        self.assertEqual(loop_bonds(deed, 1), [(0, 1, -3), (1, 0, 9)])
        self.assertEqual(loop_bonds(deed, 4), [(0, 4, -3), (4, 0, 9)])

    def test_three_loops_with_bounds_by_names(self):
        deed = Deed(("z", "a", "m"), (("", -2), ("z", 5), ("z", -1)), (("", 7), ("z", 0), ("a", 4)),
                    "t", (("", 0),), Number(1), (0, 0, 0, 0))
        self.assertEqual(loop_bonds(deed, 1), [(0, 1, 2), (1, 0, 7), (1, 2, -5), (2, 1, 0),
                                               (1, 3, 1), (3, 2, 4)])
        self.assertEqual(loop_bonds(deed, 4), [(0, 4, 2), (4, 0, 7), (4, 5, -5), (5, 4, 0),
                                               (4, 6, 1), (6, 5, 4)])

    def test_the_greatest_bounds(self):
        deed = Deed(("i",), (("", -GREATEST),), (("", GREATEST),), "a", (("", 0),), Number(1), (0, 0))
        self.assertEqual(loop_bonds(deed, 2), [(0, 2, GREATEST), (2, 0, GREATEST)])

    def test_they_hold_just_for_the_turns(self):
        deed = Deed(("i", "j", "k"), (("", -2), ("i", -1), ("j", 0)), (("", 1), ("", 2), ("i", 1)),
                    "a", (("", 0),), Number(1), (0, 0, 0, 0))
        seen = 0
        for first in (1, 3):
            bonds = loop_bonds(deed, first)
            for values in itertools.product(range(-4, 5), repeat=3):
                seen += within(deed, values)
                self.assertIs(holds(bonds, (0,) * first + values), within(deed, values))
        self.assertGreater(seen, 0)

    def test_kinds(self):
        bonds = loop_bonds(deed_of("a[0] = 1"), 1)
        self.assertIs(type(bonds), list)
        for bond in bonds:
            self.assertIs(type(bond), tuple)
            self.assertEqual([type(part) for part in bond], [int, int, int])


class LikeBonds(unittest.TestCase):
    def test_one_spot_of_each(self):
        i, j = ("i",), ("j",)
        self.assertEqual(like_bonds((("i", 2),), i, 1, (("j", 5),), j, 2), [(1, 2, 3), (2, 1, -3)])
        self.assertEqual(like_bonds((("i", 0),), i, 1, (("i", 0),), i, 2), [(1, 2, 0), (2, 1, 0)])
        self.assertEqual(like_bonds((("i", -4),), i, 1, (("", 6),), j, 2), [(1, 0, 10), (0, 1, -10)])
        self.assertEqual(like_bonds((("", 6),), i, 1, (("j", -4),), j, 2), [(0, 2, -10), (2, 0, 10)])

    def test_spots_by_no_name(self):
        self.assertEqual(like_bonds((("", 6),), (), 1, (("", 4),), (), 1), [(0, 0, -2), (0, 0, 2)])
        self.assertEqual(like_bonds((("", 6),), ("i",), 1, (("", 6),), ("i",), 2),
                         [(0, 0, 0), (0, 0, 0)])

    def test_three_spots_with_unknowns_from_any_number(self):
        self.assertEqual(
            like_bonds((("k", 1), ("i", 0), ("", 7)), ("i", "j", "k"), 1,
                       (("i", 0), ("i", -2), ("j", 3)), ("j", "i"), 4),
            [(3, 5, -1), (5, 3, 1), (1, 5, -2), (5, 1, 2), (0, 4, -4), (4, 0, 4)])
        self.assertEqual(like_bonds((("k", 1),), ("i", "k"), 7, (("k", 0),), ("k",), 2),
                         [(8, 2, -1), (2, 8, 1)])

    def test_one_name_in_both_is_two_unknowns(self):
        self.assertEqual(like_bonds((("i", 0), ("i", 1)), ("i",), 1, (("i", 0), ("i", 1)), ("i",), 2),
                         [(1, 2, 0), (2, 1, 0), (1, 2, 0), (2, 1, 0)])

    def test_the_greatest_numbers(self):
        self.assertEqual(like_bonds((("i", GREATEST),), ("i",), 1, (("i", -GREATEST),), ("i",), 2),
                         [(1, 2, -2 * GREATEST), (2, 1, 2 * GREATEST)])

    def test_they_hold_just_for_one_place(self):
        names, other_names = ("i", "j"), ("j", "k")
        seen = 0
        for spots, others in (((("i", 1), ("j", 0)), (("k", 0), ("", 2))),
                              ((("j", -1), ("", 0)), (("j", 1), ("k", 0))),
                              ((("", 1), ("i", 0)), (("", 1), ("j", -1))),
                              ((("", 1), ("i", 0)), (("", 2), ("j", -1)))):
            bonds = like_bonds(spots, names, 1, others, other_names, 3)
            for values in itertools.product(range(-2, 4), repeat=4):
                place = placed(spots, dict(zip(names, values[:2])))
                other_place = placed(others, dict(zip(other_names, values[2:])))
                seen += place == other_place
                self.assertIs(holds(bonds, (0,) + values), place == other_place)
        self.assertGreater(seen, 0)

    def test_kinds(self):
        bonds = like_bonds((("i", 2), ("", 1)), ("i",), 1, (("j", 5), ("", 1)), ("j",), 2)
        self.assertIs(type(bonds), list)
        for bond in bonds:
            self.assertIs(type(bond), tuple)
            self.assertEqual([type(part) for part in bond], [int, int, int])


class NothingIsKept(unittest.TestCase):
    def deed(self):
        term = Joined("+", Cell("b", (("i", 0),)), Joined("*", Value("i"), Cell("a", (("j", 1),))))
        return Deed(("i", "j"), (("", 0), ("i", 0)), (("", 9), ("i", 4)), "a", (("j", 0),), term,
                    (0, 0, 0))

    def questions(self, deed):
        return (lambda: touches(deed), lambda: loop_bonds(deed, 1),
                lambda: like_bonds((("j", 0),), deed.names, 1, (("i", 3),), deed.names, 3))

    def test_asked_twice_and_with_others_between(self):
        questions = self.questions(self.deed())
        first = [question() for question in questions]
        loop_bonds(self.deed(), 5)
        touches(deed_of("q[0] = q[1]"))
        self.assertEqual([question() for question in reversed(questions)], first[::-1])

    def test_what_is_told_is_the_askers_own(self):
        for question in self.questions(self.deed()):
            told = question()
            kept = list(told)
            told.reverse()
            told.append("more")
            self.assertEqual(question(), kept)

    def test_a_deed_is_not_changed(self):
        deed = self.deed()
        fields, reads = dict(vars(deed)), deed.term.reads()
        for question in self.questions(deed):
            question()
        self.assertEqual(vars(deed), fields)
        self.assertEqual(deed.term.reads(), reads)
        self.assertEqual(named(deed, (1, 2)), {"i": 1, "j": 2})


if __name__ == "__main__":
    unittest.main()
