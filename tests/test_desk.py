"""Points 32, 33, 34 and 2: plans shown as rows, jobs answered, and what is refused first."""

import copy
import random
import unittest

from furrow.desk import answered, shown
from furrow.errors import BadPlan, FurrowError, NoText, NoTurning, NoWidth, TooMany
from furrow.freeing import freest
from furrow.looker import looked
from furrow.maker import made
from furrow.plain import done, turns
from furrow.plans import own_plan, sweeps_of
from furrow.reader import read
from furrow.turnings import cut as cutting
from furrow.turnings import freed, joined, moved, parted, swapped, turned
from furrow.weaver import order
from furrow.writer import written
from tests.helper import cut, deed, some_program, sweep

GREATEST = 10 ** 18 - 1
SHIFT = 10 ** 18

STEP = "size 97\nfor i 0 4\na[i] = a[i-1]*2+1\nend"
APART = "size 97\nfor i 0 4\na[i] = b[i]+i\nend"
SQUARE = "size 97\nfor i 0 3\nfor j 0 3\na[i][j] = a[i-1][j]+1\nend\nend"
TWO = "size 97\nfor i 0 4\na[i] = i\nend\nfor i 0 4\nb[i] = a[i]\nend"


class Shown(unittest.TestCase):
    def told(self, *plan):
        found = shown(plan)
        self.assertIs(type(found), str)
        return found

    def test_deeds(self):
        self.assertEqual(self.told(deed(0)), "deed 0")
        self.assertEqual(self.told(deed(3), deed(12)), "deed 3\ndeed 12")

    def test_the_documents_row(self):
        self.assertEqual(self.told(sweep(sweep(deed(1, (0, 0), (1, -2))))), "whole up\n whole up\n  deed 1 0+0 1-2")

    def test_each_cut_and_way(self):
        for cutting_it, word in ((True, "cut"), (False, "whole")):
            for way in ("up", "down", "any"):
                self.assertEqual(self.told(sweep(deed(0, (0, 0)), cut=cutting_it, way=way)), f"{word} {way}\n deed 0 0+0")

    def test_shifts(self):
        for shift, text in ((0, "+0"), (1, "+1"), (-1, "-1"), (SHIFT, "+" + str(SHIFT)), (-SHIFT, "-" + str(SHIFT))):
            self.assertEqual(self.told(sweep(deed(0, (2, shift)))), f"whole up\n deed 0 2{text}")

    def test_rows_in_their_order_with_their_blanks(self):
        plan = (cut(sweep(deed(3, (0, 1), (0, 2)), way="down"), way="any"), deed(2),
                sweep(deed(1, (0, 9)), cut(sweep(deed(0, (1, 4), (0, -5), (0, 6)), way="any"), way="down"), deed(4, (0, 0))))
        self.assertEqual(self.told(*plan), "\n".join((
            "cut any", " whole down", "  deed 3 0+1 0+2", "deed 2", "whole up", " deed 1 0+9", " cut down",
            "  whole any", "   deed 0 1+4 0-5 0+6", " deed 4 0+0")))

    def test_six_pairs(self):
        item = deed(0, (0, 0), (1, 1), (2, -1), (0, 0), (1, 0), (2, 0))
        for level in range(6):
            item = sweep(item, cut=level > 2)
        rows = self.told(item).split("\n")
        self.assertEqual(rows[5:], ["     whole up", "      deed 0 0+0 1+1 2-1 0+0 1+0 2+0"])


class Case(unittest.TestCase):
    def refused(self, kind, job, cells=(), widths=(), picks=()):
        with self.assertRaises(FurrowError) as caught:
            answered(job, dict(cells), list(widths), list(picks))
        self.assertIs(type(caught.exception), kind, job)
        return caught.exception

    def no_text(self, line, job, widths=()):
        self.assertEqual(self.refused(NoText, job, widths=widths).line, line, job)

    def done(self, job, cells=(), widths=(), picks=()):
        answer = answered(job, dict(cells), list(widths), list(picks))
        self.assertEqual((type(answer), len(answer), answer[0]), (tuple, 3, "done"), answer)
        self.assertEqual((type(answer[1]), type(answer[2])), (str, dict))
        return answer[1:]


class Answered(Case):
    def rows(self, *steps, program=SQUARE, widths=()):
        """The rows of the plan behind these turnings, of a job that is done."""
        return self.done("\n".join((program, "plan") + steps), widths=widths)[0]

    def test_no_turning(self):
        plan, cells = self.done(STEP + "\nplan")
        self.assertEqual(plan, "whole up\n deed 0 0+0")
        self.assertEqual(cells, {("a", (n,)): 2 ** (n + 1) - 1 for n in range(5)})

    def test_the_beginning_of_the_cells(self):
        cells = {("a", (-1,)): 98, ("z", (0, 0)): -1, ("y", (1,)): 97}
        self.assertEqual(self.done("size 97\na[0] = a[-1]+2\nplan", cells),
                         ("deed 0", {("a", (-1,)): 1, ("a", (0,)): 3, ("z", (0, 0)): 96}))

    def test_each_turning(self):
        own = "whole up\n whole up\n  deed 0 0+0 1+0"
        self.assertEqual(self.rows(), own)
        self.assertEqual(self.rows("swap 0"), "whole up\n whole up\n  deed 0 1+0 0+0")
        self.assertEqual(self.rows("turn 0.0"), "whole up\n whole down\n  deed 0 0+0 1+0")
        self.assertEqual(self.rows("turn 0.0", "turn 0.0"), own)
        self.assertEqual(self.rows("move 0 0 5"), "whole up\n whole up\n  deed 0 0+5 1+0")
        self.assertEqual(self.rows("move 0.0 0 -5"), "whole up\n whole up\n  deed 0 0+0 1-5")
        self.assertEqual(self.rows("move 0.0 0 0"), own)
        self.assertEqual(self.rows("cut 0", widths=[2]), "cut up\n whole up\n  whole up\n   deed 0 0+0 0+0 1+0")
        self.assertEqual(self.rows("free 0.0"), "whole up\n whole any\n  deed 0 0+0 1+0")
        self.assertEqual(self.rows("freest"), "whole up\n whole any\n  deed 0 0+0 1+0")
        self.assertEqual(self.rows("join 0", program=TWO), "whole up\n deed 0 0+0\n deed 1 0+0")
        self.assertEqual(self.rows("join 0", "part 0 1", program=TWO), "whole up\n deed 0 0+0\nwhole up\n deed 1 0+0")

    def test_turnings_one_behind_the_other(self):
        self.assertEqual(self.rows("cut 0", "cut 0.0.0", "swap 0.0", "freest", widths=[2, 2]), "\n".join((
            "cut up", " cut any", "  whole up", "   whole any", "    deed 0 0+0 1+0 0+0 1+0")))
        self.assertEqual(self.rows("turn 0", "move 0 0 7", "swap 0", "turn 0.0"),
                         "whole up\n whole up\n  deed 0 1+0 0+7")

    def test_words_remarks_blanks_and_empty_rows(self):
        job = "\n".join(("; a remark", "  size   97 ; more", "", "for i 0 4", "  a[ i ] = i ; plan", "end", "   plan ; plan",
                         "", "  ; swap 0", "  move   0  0   3  ; three", " free 0;", ""))
        self.assertEqual(self.done(job), ("whole any\n deed 0 0+3", {("a", (n,)): n for n in range(1, 5)}))

    def test_names_that_are_words_of_turnings(self):
        job = "size 9\nfor plan 0 1\nswap[plan] = cut[plan]+plan\nend\nplan\nfree 0"
        self.assertEqual(self.done(job, {("cut", (0,)): 4}),
                         ("whole any\n deed 0 0+0", {("cut", (0,)): 4, ("swap", (0,)): 4, ("swap", (1,)): 1}))

    def test_the_run_goes_by_the_plan(self):
        # Each of these plans is good; the cells are those of the plain run.
        chance = random.Random(61)
        cells = {("a", (n, m)): chance.randrange(97) for n in range(-2, 5) for m in range(-1, 5)}
        program = read(SQUARE)
        expected = done(program, turns(program, 2000), cells)
        for steps, many in ((("swap 0",), 0), (("freest",), 0), (("cut 0", "cut 0.0.0", "swap 0.0", "freest"), 2),
                            (("move 0 0 9", "turn 0.0"), 0), (("swap 0", "free 0"), 0)):
            for width in (1, 2, 3, 99):
                picks = [chance.randrange(9) for n in range(40)]
                job = "\n".join((SQUARE, "plan") + steps)
                self.assertEqual(self.done(job, cells, [width] * many, picks)[1], expected)

    def test_a_hundred_rows(self):
        job = "\n".join([STEP, "plan"] + ["turn 0", "; remark", "turn 0", "move 0 0 1", ""] * 19)
        self.assertEqual(job.count("\n") + 1, 100)
        self.assertEqual(self.done(job)[0], "whole up\n deed 0 0+19")

    def test_great_numbers_in_a_job(self):
        far = 10 ** 18 - 1
        job = f"size {far}\nfor i {far} {far}\na[i] = i+1\nend\nplan\nmove 0 0 {far}\nmove 0 0 1"
        self.assertEqual(self.done(job), (f"whole up\n deed 0 0+{SHIFT}", {("a", (far,)): 1}))
        job = f"size {far}\nfor i {far} {far}\na[i] = i+1\nend\nplan\nmove 0 0 -{far}\nmove 0 0 -1"
        self.assertEqual(self.done(job)[0], f"whole up\n deed 0 0-{SHIFT}")

    def test_widths_and_picks_are_used(self):
        # Which turn comes last is seen in no cell of a good plan, so only that they are taken is looked at.
        job = APART + "\nplan\ncut 0\nfree 0\nfree 0.0"
        for widths, picks in (([1], []), ([10 ** 40], [1, 2]), ([2], [10 ** 30] * 9)):
            self.assertEqual(self.done(job, {}, widths, picks),
                             ("cut any\n whole any\n  deed 0 0+0 0+0", {("a", (n,)): n for n in range(1, 5)}))

    def test_turnings_by_chance_against_the_functions(self):
        chance = random.Random(62)
        calls = {"swap": swapped, "join": joined, "part": parted, "turn": turned, "move": moved, "cut": cutting,
                 "free": freed}
        seen = {}
        for lap in range(500):
            program = some_program(chance, 30)
            plan, rows, expected = own_plan(program), [], None
            for step in range(chance.randrange(5)):
                word = chance.choice(sorted(calls))
                paths = [path for path, cut_it, way in sweeps_of(plan)]
                path = chance.choice(paths * 8 + [(0, 1), (2,)])
                more = {"part": (1,), "move": (chance.randrange(3), chance.randint(-2, 2))}.get(word, ())
                rows.append(" ".join([word, ".".join(map(str, path)), *map(str, more)]))
                if expected is None:
                    try:
                        plan = calls[word](plan, path, *more)
                    except NoTurning:
                        expected = NoTurning
            if chance.random() < 0.3:
                rows.append("freest")
                if expected is None:
                    try:
                        plan = freest(program, plan)
                    except BadPlan:
                        expected = BadPlan
            job = "\n".join([written(program), "plan"] + rows)
            if expected is not None:
                self.refused(expected, job)
                kind = expected.__name__
            else:
                kind = self.looked_alike(program, plan, job)
            seen[kind] = seen.get(kind, 0) + 1
        self.assertEqual(sorted(seen), ["BadPlan", "NoTurning", "bad", "good"])
        self.assertGreater(min(seen.values()), 8)

    def looked_alike(self, program, plan, job):
        answer = looked(program, plan)
        widths = [2] * str(shown(plan)).count("cut ")
        found = answered(job, {("a", (0, 0)): 5}, widths, [1, 0, 2])
        if answer[0] == "bad":
            self.assertEqual(found, answer)
        else:
            told = order(made(program, plan), widths, [1, 0, 2])
            self.assertEqual(found, ("done", shown(plan), done(program, told, {("a", (0, 0)): 5})))
        return answer[0]


class Bad(Case):
    def bad(self, job, widths=()):
        answer = answered(job, {}, list(widths), [])
        self.assertEqual((type(answer), len(answer), answer[0]), (tuple, 4, "bad"))
        return answer

    def test_two_turns_and_widths(self):
        for step in ("turn 0", "free 0"):
            kind, one, other, widths = self.bad(f"{STEP}\nplan\n{step}")
            self.assertEqual((one[0], one[1][0] + 1, widths), (0, other[1][0], []))
        kind, one, other, widths = self.bad(f"{STEP}\nplan\ncut 0\nturn 0")
        self.assertEqual(len(widths), 1)

    def test_whatever_widths_are_handed_in(self):
        for widths in ([], [0], [-5], [1, 1], [3]):
            self.assertEqual(self.bad(f"{STEP}\nplan\nturn 0", widths), self.bad(f"{STEP}\nplan\nturn 0"))
            self.bad(f"{STEP}\nplan\ncut 0\nturn 0", widths)

    def test_however_many_turns_there_are(self):
        job = f"size 9\nfor i 0 {GREATEST}\nfor j 0 {GREATEST}\na[0] = 1\nend\nend\nplan\nturn 0"
        for widths in ([], [0]):
            self.bad(job, widths)
        self.refused(TooMany, job.replace("\nturn 0", ""))


class Refused(Case):
    def test_no_row_plan(self):
        for job, line in (("", 2), ("\n", 3), (STEP, 5), (STEP + "\n", 6), (STEP + "\nplan 0", 6),
                          (STEP + "\nplans", 6), ("; plan", 2), (STEP + "\nPlan", 6), (STEP + "\npl an\n", 7)):
            self.no_text(line, job)

    def test_no_row_plan_goes_ahead_of_a_wrong_program(self):
        self.no_text(4, "sizes 97\nwrong\nswap 0")
        self.no_text(3, "\nsize 1")

    def test_a_program_that_is_none(self):
        self.no_text(2, "plan")
        self.no_text(2, "plan\nsize 9\na[0] = 1")
        self.no_text(2, "\nplan")
        self.no_text(3, "\n\nplan")
        self.no_text(2, "size 9\nplan")
        self.no_text(1, "size 1\na[0] = 1\nplan")
        self.no_text(3, "size 9\na[0] = 1\na[0][0] = 1\nplan")
        self.no_text(5, "size 9\nfor i 0 1\na[0] = 1\n; no end\nplan")
        self.no_text(3, "size 9\na[0] = 1\nplan x\nplan")
        self.no_text(2, "; plan\nplan\nplan")

    def test_a_wrong_program_goes_ahead_of_a_wrong_turning(self):
        self.no_text(1, "size 1\na[0] = 1\nplan\nwrong")
        self.no_text(3, "size 9\na[0] = 1\nwrong\nplan\nwrong")

    def test_turnings_without_their_form(self):
        wrong = ("plan", "swap", "swap 0 0", "swap 0.", "swap .0", "swap 0..0", "swap -1", "swap 0.-1", "swap 00",
                 "swap 01", "swap x", "swap +0", "swap 0,0", "swap 0 .0", "swap 1000000000000000000", "Swap 0", "SWAP 0",
                 "swapped 0", "swap0", "join", "join 0 1", "part 0", "part 0 -1", "part 0 x", "part 0 01", "part 0 1 1",
                 "part 1", "turn", "turn 0 up", "move 0", "move 0 0", "move 0 0 -0", "move 0 0 --1", "move 0 0 +1",
                 "move 0 0 - 1", "move 0 -1 1", "move 0 0 1 1", "move 0 0 -01", "move 0 0 00", "move 0 0 -", "move 0 x 1",
                 "move 0 0 1000000000000000000", "move 0 0 -1000000000000000000", "cut", "cut 0 2", "free", "free 0 0",
                 "freest 0", "frees", "freest.", "end", "a[0] = 1", "size 9", "0", "=", ".")
        for row in wrong:
            with self.subTest(row=row):
                self.no_text(6, f"{STEP}\nplan\n{row}")
                self.no_text(8, f"{STEP}\nplan\n; first\nfree 0\n  {row}  ; remark\nmore wrong ones")

    def test_the_first_row_without_its_form(self):
        self.no_text(7, f"{STEP}\nplan\nfree 0\nswap\ncut")
        self.no_text(9, f"{STEP}\nplan\n\n; a remark\n\nfree")

    def test_a_form_goes_ahead_of_turnings_that_can_not_be(self):
        for row in ("swap 0", "join 0", "turn 7", "freest"):
            self.no_text(8, f"{STEP}\nplan\nturn 0\n{row}\nwrong")

    def test_turnings_that_can_not_be(self):
        for row in ("swap 0", "swap 1", "swap 0.0", "swap 0.0.0", "swap 999999999999999999", "join 0", "part 0 0",
                    "part 0 1", "part 0 999999999999999999", "turn 1", "turn 0.0", "move 0 1 0", "move 0 7 1", "move 1 0 0",
                    "cut 1", "free 0.0", "free 3"):
            with self.subTest(row=row):
                self.refused(NoTurning, f"{STEP}\nplan\n{row}")
        self.refused(NoTurning, f"{STEP}\nplan\nfree 0\nturn 0")
        self.refused(NoTurning, f"{STEP}\nplan\ncut 0\ncut 0")
        self.refused(NoTurning, f"{STEP}\nplan\nmove 0 0 {GREATEST}\nmove 0 0 2")
        self.refused(NoTurning, f"{STEP}\nplan\n" + "\n".join("cut " + ".".join("0" * n) for n in range(1, 7)))

    def test_the_freest_of_a_plan_that_is_not_good(self):
        self.refused(BadPlan, f"{STEP}\nplan\nturn 0\nfreest")
        self.assertEqual(self.done(f"{STEP}\nplan\nturn 0\nturn 0\nfreest")[0], "whole up\n deed 0 0+0")

    def test_turnings_are_refused_in_their_order(self):
        self.refused(BadPlan, f"{STEP}\nplan\nturn 0\nfreest\nswap 0")
        self.refused(NoTurning, f"{STEP}\nplan\nturn 0\nswap 0\nfreest")

    def test_turnings_are_refused_ahead_of_a_bad_plan_many_turns_and_widths(self):
        job = f"size 9\nfor i 0 {GREATEST}\na[0] = 1\nend\nplan\n"
        for widths in ([], [0], [1]):
            self.refused(NoTurning, job + "turn 0\nturn 1", widths=widths)
            self.refused(BadPlan, job + "turn 0\nfreest", widths=widths)
            self.no_text(6, job + "turn", widths=widths)

    def test_two_thousand_turns_and_one_more(self):
        # Each value of the loop is a turn of the loop and one of the deed.
        for high, more, kind in ((999, "", None), (999, "b[0] = 1\n", TooMany), (1000, "", TooMany),
                                 (998, "b[0] = 1\n" * 2, None), (GREATEST, "", TooMany)):
            job = f"size 9\nfor i 0 {high}\na[i] = 0\nend\n{more}plan"
            if kind:
                self.refused(kind, job)
            else:
                self.done(job)
        # Loops count without a deed, too.
        self.refused(TooMany, "size 9\nfor i 0 2000\nfor j 1 0\na[i] = 1\nend\nend\nplan")
        self.assertEqual(self.done("size 9\nfor i 1 2000\nfor j 1 0\na[i] = 1\nend\nend\nplan")[1], {})

    def test_too_many_goes_ahead_of_widths(self):
        job = "size 9\nfor i 0 {}\na[i] = 0\nend\nplan\ncut 0"
        for widths in ([], [0], [1, 1]):
            self.refused(TooMany, job.format(1000), widths=widths)
            self.refused(NoWidth, job.format(999), widths=widths)
        self.refused(TooMany, job.format(1000), widths=[1])
        self.done(job.format(999), widths=[1])

    def test_widths(self):
        for widths in ([1], [0], [1, 1]):
            self.refused(NoWidth, STEP + "\nplan", widths=widths)
        for widths in ([], [0], [-1], [1, 1], [1, 0]):
            self.refused(NoWidth, STEP + "\nplan\ncut 0", widths=widths)
        for widths in ([], [1], [1, 0], [0, 1], [1, 1, 1]):
            self.refused(NoWidth, STEP + "\nplan\ncut 0\ncut 0.0", widths=widths)


class NothingIsKept(Case):
    JOB = APART + "\nplan\ncut 0\nfree 0"
    CELLS = {("b", (1,)): 100, ("z", (0,)): 97, ("y", (0,)): 5}

    def test_asked_twice_and_with_others_between(self):
        first = self.done(self.JOB, self.CELLS, [2], [1, 1])
        self.refused(NoWidth, self.JOB, self.CELLS)
        self.refused(NoTurning, STEP + "\nplan\nswap 0")
        self.assertEqual(self.done(self.JOB, self.CELLS, [2], [1, 1]), first)

    def test_what_is_handed_in_is_not_changed(self):
        cells, widths, picks = dict(self.CELLS), [2], [1, 1, 7]
        answered(self.JOB, cells, widths, picks)
        self.assertEqual((list(cells.items()), widths, picks), (list(self.CELLS.items()), [2], [1, 1, 7]))
        plan = own_plan(read(SQUARE))
        kept = copy.deepcopy(plan)
        shown(plan)
        self.assertEqual(plan, kept)

    def test_what_is_told_is_the_askers_own(self):
        kept = copy.deepcopy(self.done(self.JOB, self.CELLS, [2], []))
        told = self.done(self.JOB, self.CELLS, [2], [])
        told[1].clear()
        self.assertEqual(self.done(self.JOB, self.CELLS, [2], []), kept)
        bad = answered(STEP + "\nplan\ncut 0\nturn 0", {}, [], [])
        kept = copy.deepcopy(bad)
        bad[3].append(5)
        self.assertEqual(answered(STEP + "\nplan\ncut 0\nturn 0", {}, [], []), kept)

    def test_cells_changed_behind(self):
        cells = dict(self.CELLS)
        told = answered(self.JOB, cells, [2], [])
        kept = copy.deepcopy(told)
        cells[("y", (0,))] = 6
        cells.pop(("b", (1,)))
        self.assertEqual(told, kept)


if __name__ == "__main__":
    unittest.main()
