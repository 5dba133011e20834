"""Points 17, 19, 20 and 2: meets, cases, the bonds of a case, and leanings."""

import itertools
import unittest

from furrow.deeds import Program, ahead, named, shared, within
from furrow.leans import case_bonds, cases, leanings, meets
from furrow.plain import turns
from furrow.reader import read
from furrow.terms import placed
from furrow.touch import touches
from tests.helper import holds, is_ring, place_of

GREATEST = 10 ** 18 - 1

TEXTS = (
    "size 97\na[0] = 1",
    "size 97\na[0] = a[0]+a[1]\na[1] = a[0]\nb[0] = a[0]",
    "size 97\nfor i 0 4\na[i] = a[i-1]+1\nend",
    "size 97\nfor i 0 4\na[i] = a[i+1]*a[i+1]\nend",
    "size 97\nfor i 0 4\na[i] = a[i-9]\nend",
    "size 97\nfor i 0 4\na[0] = i\nb[i] = a[0]\nend",
    "size 97\nfor i 0 3\na[i] = 1\nend\nfor i 0 3\na[i] = a[i]+b[i]\nend",
    "size 97\nfor i 4 3\na[0] = a[0]\nend",
    "size 97\nfor i 0 3\nfor j i 3\na[i][j] = a[i-1][j+1]+a[i][j-1]\nend\nend",
    "size 97\nfor i 0 3\nfor j 0 3\na[j] = a[i]\nend\nend",
    "size 97\nfor i 0 2\na[i] = 3\nfor j i-1 i+1\nfor k j i+1\nb[k] = b[k]+a[i]\nend\na[j] = b[j]\n"
    "end\na[i] = a[i]*2\nend",
    "size 97\nfor i 0 2\nfor j 0 2\na[i][j] = i\nend\nfor j 0 2\na[j][i] = a[i][j]*7+j\nend\nend",
    "size 97\nb[1] = 4\nfor k -2 0\nfor i 1 k+1\nb[i] = b[1]+k\nend\nend\nb[0] = b[1]-9",
    "size 97\nfor i 0 2\nfor j i 2\nfor k j i+1\na[k][j] = a[j][k]+c[i]*c[0]\nend\nend\nend",
)


def case_of(program, one, other):
    """The case in which the plain run does the one turn ahead of the other, or None."""
    many = shared(program.deeds[one[0]], program.deeds[other[0]])
    for e in range(many):
        if one[1][e] != other[1][e]:
            return e if one[1][e] < other[1][e] else None
    return many if one[0] < other[0] else None


class Meets(unittest.TestCase):
    def test_no_cell_read(self):
        self.assertEqual(meets(read("size 9\na[0] = 1")), [(0, 0, 0, 0)])

    def test_a_deed_met_with_itself(self):
        self.assertEqual(meets(read("size 9\na[0] = a[5]")),
                         [(0, 0, 0, 0), (0, 0, 0, 1), (0, 1, 0, 0)])

    def test_one_cell_more_than_once(self):
        self.assertEqual(meets(read("size 9\na[0] = a[0]+b[0]*a[0]")),
                         [(0, 0, 0, 0), (0, 0, 0, 1), (0, 0, 0, 3), (0, 1, 0, 0), (0, 3, 0, 0)])

    def test_a_table_that_is_only_read(self):
        self.assertEqual(meets(read("size 9\na[0] = b[0]+b[0]\nc[0] = b[0]")),
                         [(0, 0, 0, 0), (1, 0, 1, 0)])

    def test_two_deeds(self):
        self.assertEqual(meets(read("size 9\na[0] = b[0]\nb[0] = a[0]")),
                         [(0, 0, 0, 0), (0, 0, 1, 1), (0, 1, 1, 0),
                          (1, 0, 0, 1), (1, 0, 1, 0), (1, 1, 0, 0)])
        self.assertEqual(meets(read("size 9\na[0] = 1\na[1] = 1")),
                         [(0, 0, 0, 0), (0, 0, 1, 0), (1, 0, 0, 0), (1, 0, 1, 0)])

    def test_unlike_places_are_a_meet_too(self):
        self.assertIn((0, 0, 1, 0), meets(read("size 9\na[0] = 1\na[1] = 1")))

    def test_all_of_them_as_point_17_tells(self):
        for text in TEXTS:
            program = read(text)
            touched = [(k, a) for k, deed in enumerate(program.deeds) for a in range(len(touches(deed)))]
            expected = []
            for (k, a), (l, b) in itertools.product(touched, repeat=2):
                one, other = touches(program.deeds[k])[a], touches(program.deeds[l])[b]
                if one[1] == other[1] and True in (one[0], other[0]):
                    expected.append((k, a, l, b))
            self.assertEqual(meets(program), sorted(expected))

    def test_kinds(self):
        for text in TEXTS:
            found = meets(read(text))
            self.assertIs(type(found), list)
            for meet in found:
                self.assertIs(type(meet), tuple)
                self.assertEqual([type(part) for part in meet], [int] * 4)


class Cases(unittest.TestCase):
    def test_no_shared_loop(self):
        program = read("size 9\na[0] = 1\na[0] = 2\nfor i 0 1\na[i] = 1\nend\nfor i 0 1\na[i] = 2\nend")
        for k, l in itertools.product(range(4), repeat=2):
            expected = [0] if k < l else [0] if k == l and k > 1 else []
            self.assertEqual(cases(program, k, l), expected)

    def test_a_deed_and_itself(self):
        for many in range(4):
            names = "ijk"[:many]
            text = "size 9\n" + "".join(f"for {name} 0 1\n" for name in names) + "a[0] = 1" + "\nend" * many
            self.assertEqual(cases(read(text), 0, 0), list(range(many)))

    def test_shared_loops(self):
        program = read("size 9\nfor i 0 1\na[0] = 1\nfor j 0 1\na[0] = 1\na[0] = 1\nend\nfor j 0 1\n"
                       "a[0] = 1\nend\nend")
        self.assertEqual([[cases(program, k, l) for l in range(4)] for k in range(4)],
                         [[[0], [0, 1], [0, 1], [0, 1]],
                          [[0], [0, 1], [0, 1, 2], [0, 1]],
                          [[0], [0, 1], [0, 1], [0, 1]],
                          [[0], [0], [0], [0, 1]]])

    def test_kinds(self):
        program = read(TEXTS[10])
        for k, l in itertools.product(range(len(program.deeds)), repeat=2):
            found = cases(program, k, l)
            self.assertIs(type(found), list)
            self.assertEqual({type(case) for case in found} - {int}, set())


class CaseBonds(unittest.TestCase):
    TEXT = "size 9\nfor i 2 7\nfor j i-1 5\na[i][j+1] = a[j][3]\na[0][i] = 1\nend\nend"
    ONE = [(0, 1, -2), (1, 0, 7), (1, 2, 1), (2, 0, 5)]
    OTHER = [(0, 3, -2), (3, 0, 7), (3, 4, 1), (4, 0, 5)]

    def test_the_order_of_all_bonds(self):
        program = read(self.TEXT)
        like = [(1, 4, 0), (4, 1, 0), (2, 0, 2), (0, 2, -2)]
        loops = self.ONE + self.OTHER
        self.assertEqual(case_bonds(program, 0, 0, 0, 1, 0), loops + like + [(1, 3, -1)])
        self.assertEqual(case_bonds(program, 0, 0, 0, 1, 1),
                         loops + like + [(1, 3, 0), (3, 1, 0), (2, 4, -1)])

    def test_the_case_of_the_lesser_deed(self):
        program = read(self.TEXT)
        like = [(2, 0, 0), (0, 2, 0), (0, 3, -3), (3, 0, 3)]
        self.assertEqual(case_bonds(program, 0, 1, 1, 0, 2), self.ONE + self.OTHER + like
                         + [(1, 3, 0), (3, 1, 0), (2, 4, 0), (4, 2, 0)])

    def test_deeds_at_unlike_depths(self):
        program = read("size 9\na[4] = 1\nfor i 0 3\na[i-1] = a[i]\nfor j i 8\na[j] = 1\nend\nend")
        self.assertEqual(case_bonds(program, 0, 0, 1, 0, 0),
                         [(0, 1, 0), (1, 0, 3), (0, 1, -5), (1, 0, 5)])
        self.assertEqual(case_bonds(program, 1, 1, 2, 0, 0),
                         [(0, 1, 0), (1, 0, 3), (0, 2, 0), (2, 0, 3), (2, 3, 0), (3, 0, 8),
                          (1, 3, 0), (3, 1, 0), (1, 2, -1)])
        self.assertEqual(case_bonds(program, 2, 0, 1, 0, 0),
                         [(0, 1, 0), (1, 0, 3), (1, 2, 0), (2, 0, 8), (0, 3, 0), (3, 0, 3),
                          (2, 3, -1), (3, 2, 1), (1, 3, -1)])

    def test_two_deeds_in_no_loop(self):
        program = read("size 9\na[4] = 1\na[6] = 1")
        self.assertEqual(case_bonds(program, 0, 0, 1, 0, 0), [(0, 0, 2), (0, 0, -2)])

    def test_they_hold_just_for_the_turns_of_the_case(self):
        for text in TEXTS:
            program = read(text)
            for k, a, l, b in meets(program):
                ones = [turn for turn in turns(program, 10 ** 4) if turn[0] == k]
                others = [turn for turn in turns(program, 10 ** 4) if turn[0] == l]
                for case in cases(program, k, l):
                    bonds = case_bonds(program, k, a, l, b, case)
                    for one, other in itertools.product(ones[:20], others[:20]):
                        meet = place_of(program, one, a) == place_of(program, other, b)
                        expected = meet and case_of(program, one, other) == case
                        self.assertIs(holds(bonds, (0,) + one[1] + other[1]), expected)

    def test_they_hold_for_no_values_out_of_the_loops(self):
        program = read("size 9\nfor i 0 2\na[i] = a[i-1]\nend")
        bonds = case_bonds(program, 0, 0, 0, 1, 0)
        for values in itertools.product(range(-3, 6), repeat=2):
            expected = values in ((0, 1), (1, 2))
            self.assertIs(holds(bonds, (0,) + values), expected)

    def test_kinds(self):
        bonds = case_bonds(read(self.TEXT), 0, 0, 0, 1, 1)
        self.assertIs(type(bonds), list)
        for bond in bonds:
            self.assertIs(type(bond), tuple)
            self.assertEqual([type(part) for part in bond], [int] * 3)


class Leanings(unittest.TestCase):
    def pair_holds(self, program, leaning):
        k, a, l, b, case, answer = leaning
        self.assertEqual(len(answer), 3)
        for values in answer[1:]:
            self.assertIs(type(values), tuple)
            self.assertEqual({type(value) for value in values} - {int}, set())
        one, other = (k, answer[1]), (l, answer[2])
        self.assertEqual([len(values) for values in answer[1:]],
                         [len(program.deeds[n].names) for n in (k, l)])
        self.assertTrue(within(program.deeds[k], answer[1]))
        self.assertTrue(within(program.deeds[l], answer[2]))
        self.assertEqual(place_of(program, one, a), place_of(program, other, b))
        self.assertEqual(case_of(program, one, other), case)
        self.assertTrue(ahead(program, one, other))

    def ring_holds(self, program, leaning):
        answer = leaning[5]
        self.assertEqual(len(answer), 2)
        self.assertIs(type(answer[1]), list)
        bonds = case_bonds(program, *leaning[:5])
        for bond in answer[1]:
            self.assertIs(type(bond), tuple)
            self.assertIn(bond, bonds)
        self.assertTrue(is_ring(answer[1]), leaning)

    def told(self, program):
        """The leanings, each held against its bonds, as a dict of the first five."""
        found = leanings(program)
        self.assertIs(type(found), list)
        for leaning in found:
            self.assertIs(type(leaning), tuple)
            self.assertEqual([type(part) for part in leaning], [int] * 5 + [tuple])
            self.assertIn(leaning[5][0], ("pair", "ring"))
            if leaning[5][0] == "pair":
                self.pair_holds(program, leaning)
            else:
                self.ring_holds(program, leaning)
        expected = [meet + (case,) for meet in meets(program) for case in cases(program, meet[0], meet[2])]
        self.assertEqual([leaning[:5] for leaning in found], sorted(expected))
        return {leaning[:5]: leaning[5] for leaning in found}

    def test_pairs_just_where_the_turns_have_some(self):
        for text in TEXTS:
            program = read(text)
            found = self.told(program)
            run = turns(program, 10 ** 4)
            seen = set()
            for (at, one), (behind, other) in itertools.combinations(enumerate(run), 2):
                for a, b in itertools.product(range(len(touches(program.deeds[one[0]]))),
                                              range(len(touches(program.deeds[other[0]])))):
                    key = (one[0], a, other[0], b, case_of(program, one, other))
                    if key in found and place_of(program, one, a) == place_of(program, other, b):
                        seen.add(key)
            with self.subTest(text=text):
                self.assertEqual({key for key, answer in found.items() if answer[0] == "pair"}, seen)

    def test_one_step_on(self):
        program = read("size 97\nfor i 0 1\na[i] = a[i-1]\nend")
        found = self.told(program)
        self.assertEqual(found[(0, 0, 0, 1, 0)], ("pair", (0,), (1,)))
        self.assertEqual([found[(0, 0, 0, 0, 0)][0], found[(0, 1, 0, 0, 0)][0]], ["ring", "ring"])
        self.assertEqual(len(found), 3)

    def test_a_deed_in_no_loop(self):
        self.assertEqual(leanings(read("size 9\na[0] = a[0]")), [])
        self.assertEqual(leanings(read("size 9\na[0] = 1\na[0] = 1")), [(0, 0, 1, 0, 0, ("pair", (), ()))])
        self.assertEqual(self.told(read("size 9\na[0] = 1\na[1] = 1")),
                         {(0, 0, 1, 0, 0): ("ring", [(0, 0, -1)])})

    def test_no_turns_and_turns_that_are_just_enough(self):
        for far, kind in ((3, "pair"), (4, "ring")):
            found = self.told(read(f"size 97\nfor i 0 3\na[i] = a[i-{far}]\nend"))
            self.assertEqual(found[(0, 0, 0, 1, 0)][0], kind)
        for high, kind in ((4, "ring"), (5, "pair")):
            found = self.told(read(f"size 97\nfor i 5 {high}\na[0] = 1\nend\na[0] = 2"))
            self.assertEqual(found[(0, 0, 1, 0, 0)][0], kind)

    def test_turns_far_from_nought(self):
        low, high = GREATEST - 1, GREATEST
        for sign in ("", "-"):
            bounds = f"{sign}{low} {sign}{high}" if sign == "" else f"-{high} -{low}"
            found = self.told(read(f"size 97\nfor i {bounds}\na[i] = a[i-1]\nend"))
            self.assertEqual(found[(0, 0, 0, 1, 0)][0], "pair")
            found = self.told(read(f"size 97\nfor i {bounds}\na[i] = a[i-2]\nend"))
            self.assertEqual(found[(0, 0, 0, 1, 0)][0], "ring")

    def test_bounds_that_are_not_gone_through(self):
        for far, kind in ((GREATEST - 1, "pair"), (GREATEST, "pair")):
            found = self.told(read(f"size 97\nfor i 0 {GREATEST}\na[i] = a[i-{far}]\nend"))
            self.assertEqual(found[(0, 0, 0, 1, 0)][0], kind)
        found = self.told(read(f"size 97\nfor i 1 {GREATEST}\na[i] = a[i-{GREATEST}]\nend"))
        self.assertEqual(found[(0, 0, 0, 1, 0)][0], "ring")
        rows = ("size 97", f"for i -{GREATEST} {GREATEST}", f"for j i-{GREATEST} i+{GREATEST}",
                f"for k j-{GREATEST} j+{GREATEST}", f"a[k+{GREATEST}] = a[i-{GREATEST}]", "end", "end", "end")
        found = self.told(read("\n".join(rows)))
        # Where the read place is the written one, k lies at its least beneath i.
        self.assertEqual([key for key in found if found[key][0] == "ring"],
                         [(0, 0, 0, 0, 2), (0, 1, 0, 0, 0), (0, 1, 0, 0, 1), (0, 1, 0, 0, 2)])

    def test_like_loops_side_by_side_are_not_shared(self):
        program = read("size 97\nfor i 0 3\na[i] = 1\nend\nfor i 0 3\nb[i] = a[i+1]\nend")
        found = self.told(program)
        self.assertEqual(found[(0, 0, 1, 1, 0)][0], "pair")
        self.assertNotIn((1, 1, 0, 0, 0), found)
        program = read("size 97\nfor i 0 3\na[i] = 1\nb[i] = a[i+1]\nend")
        found = self.told(program)
        self.assertEqual([found[(0, 0, 1, 1, 0)][0], found[(0, 0, 1, 1, 1)][0], found[(1, 1, 0, 0, 0)][0]],
                         ["ring", "ring", "pair"])

    def test_six_deeds_of_forty_cells(self):
        row = "a[i][j][k] = " + "+".join(f"a[i-{n}][j+{n}][k]" for n in range(40))
        program = read("\n".join(["size 97", "for i 0 9", "for j i 9", "for k j 9"] + [row] * 6 + ["end"] * 3))
        self.assertEqual(len(self.told(program)), sum(3 + (k < l) for k, a, l, b in meets(program)))


class NothingIsKept(unittest.TestCase):
    def questions(self, program):
        return (lambda: meets(program), lambda: cases(program, 0, 1),
                lambda: case_bonds(program, 0, 0, 1, 1, 0), lambda: leanings(program))

    def test_asked_twice_and_with_others_between(self):
        questions = self.questions(read(TEXTS[5]))
        first = [question() for question in questions]
        for text in TEXTS:
            leanings(read(text))
        self.assertEqual([question() for question in reversed(questions)], first[::-1])

    def test_what_is_told_is_the_askers_own(self):
        for question in self.questions(read(TEXTS[5])):
            told = question()
            kept = list(told)
            told.clear()
            self.assertEqual(question(), kept)

    def test_a_ring_is_the_askers_own(self):
        program = read(TEXTS[4])
        kept = [(leaning[:5], list(leaning[5][1])) for leaning in leanings(program)]
        for leaning in leanings(program):
            leaning[5][1].append("more")
        self.assertEqual([(leaning[:5], leaning[5][1]) for leaning in leanings(program)], kept)

    def test_nothing_of_the_program_is_changed(self):
        program = read(TEXTS[10])
        deeds = list(program.deeds)
        fields = [dict(vars(deed)) for deed in deeds]
        for question in self.questions(program):
            question()
        self.assertEqual(program.deeds, deeds)
        self.assertEqual([vars(deed) for deed in deeds], fields)

    def test_a_deed_taken_out_and_the_program_asked_as_it_then_is(self):
        rows = ["size 97", "for i 0 3", "a[i] = b[i-1]", "b[i] = a[i-1]", "a[i] = b[i+1]", "end"]
        for k in range(3):
            program = read("\n".join(rows))
            before = leanings(program)
            program.deeds.pop(k)
            left = read("\n".join(rows[:k + 2] + rows[k + 3:]))
            self.assertEqual(meets(program), meets(left))
            self.assertEqual([cases(program, *pair) for pair in ((0, 1), (1, 0), (1, 1))],
                             [cases(left, *pair) for pair in ((0, 1), (1, 0), (1, 1))])
            self.assertEqual([case_bonds(program, *leaning[:5]) for leaning in leanings(program)],
                             [case_bonds(left, *leaning[:5]) for leaning in leanings(left)])
            self.assertEqual(leanings(program), leanings(left))
            self.assertNotEqual(leanings(program), before)

    def test_the_list_that_was_handed_in_is_changed_behind(self):
        deeds = read(TEXTS[5]).deeds
        program = Program(97, deeds)
        before = leanings(program)
        deeds.pop()
        self.assertEqual(leanings(program), before)


if __name__ == "__main__":
    unittest.main()
