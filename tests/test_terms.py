"""Points 4, 5 and 2: spots and terms."""

import unittest

from furrow.terms import Cell, Joined, Number, Term, Value, placed

GREATEST = 10 ** 18 - 1
KINDS = (Number, Value, Cell, Joined)


class Asked:
    """A function of cells that notes what it was asked for."""

    def __init__(self, held=None):
        self.held = held or {}
        self.calls = []

    def __call__(self, table, place):
        self.calls.append((table, place))
        return self.held.get((table, place), 0)


def refused(table, place):
    raise AssertionError(f"asked of {table} {place}")


def from_left(sign, parts):
    term = parts[0]
    for part in parts[1:]:
        term = Joined(sign, term, part)
    return term


def from_right(sign, parts):
    term = parts[-1]
    for part in reversed(parts[:-1]):
        term = Joined(sign, part, term)
    return term


def halved(sign, parts):
    if len(parts) == 1:
        return parts[0]
    middle = len(parts) // 2
    return Joined(sign, halved(sign, parts[:middle]), halved(sign, parts[middle:]))


def forty_parts():
    """Numbers, names and cells in turn, a[i] in every fourth of them."""
    parts = []
    for n in range(10):
        parts += [Number(n), Value("i"), Cell("a", (("i", 0),)),
                  Cell("b", (("", n), ("j", -n)))]
    return parts


FORTY_READS = [read for n in range(10)
               for read in (("a", (("i", 0),)), ("b", (("", n), ("j", -n))))]


class Spots(unittest.TestCase):
    def test_a_spot_without_a_name_stands_for_its_number(self):
        self.assertEqual(placed((("", 7),), {"i": 100}), (7,))
        self.assertEqual(placed((("", 0),), {"i": 100}), (0,))
        self.assertEqual(placed((("", -7),), {}), (-7,))

    def test_the_text_without_signs_is_no_name_of_a_loop(self):
        self.assertEqual(placed((("", 7),), {"": 100}), (7,))

    def test_a_spot_with_a_name_stands_for_so_much_more_than_the_value(self):
        self.assertEqual(placed((("i", 3),), {"i": 100}), (103,))
        self.assertEqual(placed((("i", 0),), {"i": 100}), (100,))
        self.assertEqual(placed((("i", -3),), {"i": 100}), (97,))
        self.assertEqual(placed((("i", 3),), {"i": -100}), (-97,))

    def test_one_to_three_spots_in_their_order(self):
        values = {"i": 10, "j": 20}
        self.assertEqual(placed((("j", 1), ("i", -1)), values), (21, 9))
        self.assertEqual(placed((("j", 0), ("", 5), ("j", 2)), values), (20, 5, 22))

    def test_the_greatest_numbers_either_way(self):
        for n in (GREATEST, -GREATEST):
            self.assertEqual(placed((("", n),), {}), (n,))
            self.assertEqual(placed((("i", n),), {"i": GREATEST}), (GREATEST + n,))
            self.assertEqual(placed((("i", n),), {"i": -GREATEST}), (n - GREATEST,))
        self.assertEqual(placed((("i", GREATEST),), {"i": 1}), (10 ** 18,))
        self.assertEqual(placed((("i", GREATEST),), {"i": GREATEST}),
                         (1999999999999999998,))

    def test_it_is_a_tuple_of_whole_numbers(self):
        place = placed((("", 0), ("i", 0), ("i", 1)), {"i": 0})
        self.assertIs(type(place), tuple)
        self.assertEqual([type(n) for n in place], [int, int, int])


class Kinds(unittest.TestCase):
    def test_the_four_stand_under_term(self):
        for kind in KINDS:
            self.assertTrue(issubclass(kind, Term))

    def test_none_of_the_four_stands_under_another(self):
        for kind in KINDS:
            for other in KINDS:
                if kind is not other:
                    self.assertFalse(issubclass(kind, other))

    def test_a_term_is_made_of_nothing(self):
        self.assertIsInstance(Term(), Term)
        self.assertNotIsInstance(Term(), KINDS)

    def test_fields(self):
        left, right = Number(1), Value("i")
        self.assertEqual(Number(5).n, 5)
        self.assertEqual(Value("i").name, "i")
        cell = Cell("a", (("i", 0), ("", 2)))
        self.assertEqual((cell.table, cell.spots), ("a", (("i", 0), ("", 2))))
        joined = Joined("*", left, right)
        self.assertEqual(joined.sign, "*")
        self.assertIs(joined.left, left)
        self.assertIs(joined.right, right)

    def test_two_terms_keep_fields_of_their_own(self):
        first, second = Cell("a", (("i", 0),)), Cell("b", (("j", 1),))
        self.assertEqual((first.table, first.spots), ("a", (("i", 0),)))
        self.assertEqual((second.table, second.spots), ("b", (("j", 1),)))


class Worth(unittest.TestCase):
    def test_a_number(self):
        for n in (0, 1, GREATEST):
            self.assertEqual(Number(n).worth({}, refused), n)

    def test_a_value(self):
        values = {"i": -4, "j": 9}
        self.assertEqual(Value("i").worth(values, refused), -4)
        self.assertEqual(Value("j").worth(values, refused), 9)

    def test_a_cell_is_asked_of_at_its_place(self):
        asked = Asked({("a", (5, -1, 12)): 77})
        term = Cell("a", (("", 5), ("i", -3), ("j", 3)))
        self.assertEqual(term.worth({"i": 2, "j": 9}, asked), 77)
        self.assertEqual(asked.calls, [("a", (5, -1, 12))])
        self.assertIs(type(asked.calls[0][1]), tuple)

    def test_a_table_may_be_called_as_a_loop(self):
        asked = Asked({("i", (2,)): 30})
        self.assertEqual(Cell("i", (("i", 0),)).worth({"i": 2}, asked), 30)

    def test_the_three_signs(self):
        for sign, worth in (("+", 10), ("-", 4), ("*", 21)):
            self.assertEqual(Joined(sign, Number(7), Number(3)).worth({}, refused), worth)

    def test_a_difference_may_be_below_nought(self):
        self.assertEqual(Joined("-", Number(3), Number(7)).worth({}, refused), -4)

    def test_parts_are_joined_as_they_are_nested(self):
        numbers = [Number(9), Number(5), Number(3)]
        self.assertEqual(from_left("-", numbers).worth({}, refused), 1)
        self.assertEqual(from_right("-", numbers).worth({}, refused), 7)
        product = Joined("*", Joined("+", Number(1), Number(2)), Number(5))
        self.assertEqual(product.worth({}, refused), 15)

    def test_it_is_exact_with_forty_of_the_greatest_numbers(self):
        numbers = [Number(GREATEST)] * 40
        for shape in (from_left, from_right, halved):
            self.assertEqual(shape("*", numbers).worth({}, refused), GREATEST ** 40)
            self.assertEqual(shape("+", numbers).worth({}, refused), GREATEST * 40)
        self.assertEqual(from_left("-", numbers).worth({}, refused), -38 * GREATEST)

    def test_a_term_of_forty_parts(self):
        held = {("a", (3,)): 1000}
        for n in range(10):
            held[("b", (n, 50 - n))] = 10 ** 6 * n
        worth = 45 + 10 * 3 + 10 * 1000 + 45 * 10 ** 6
        for shape in (from_left, from_right, halved):
            asked = Asked(held)
            self.assertEqual(shape("+", forty_parts()).worth({"i": 3, "j": 50}, asked), worth)
            expected = []
            for n in range(10):
                expected += [("a", (3,)), ("b", (n, 50 - n))]
            self.assertEqual(asked.calls, expected)

    def test_cells_are_asked_beside_a_factor_of_nought_too(self):
        nought, cell = Number(0), Cell("a", (("", 1),))
        for term in (Joined("*", nought, cell), Joined("*", cell, nought)):
            asked = Asked({("a", (1,)): 8})
            self.assertEqual(term.worth({}, asked), 0)
            self.assertEqual(asked.calls, [("a", (1,))])

    def test_one_cell_is_asked_as_often_as_it_stands_there(self):
        cell = Cell("a", (("i", 0),))
        for sign, worth in (("+", 12), ("-", 0), ("*", 36)):
            asked = Asked({("a", (4,)): 6})
            self.assertEqual(Joined(sign, cell, cell).worth({"i": 4}, asked), worth)
            self.assertEqual(asked.calls, [("a", (4,))] * 2)

    def test_the_cells_are_asked_as_they_are_then(self):
        answers = [5, 3]
        cell = Cell("a", (("", 0),))
        worth = Joined("-", cell, cell).worth({}, lambda table, place: answers.pop(0))
        self.assertEqual(worth, 2)

    def test_it_is_a_whole_number(self):
        asked = Asked()
        for term in (Number(0), Value("i"), Cell("a", (("i", 0),)),
                     Joined("*", Number(0), Number(1)), Joined("-", Number(1), Number(1))):
            self.assertIs(type(term.worth({"i": 1}, asked)), int)


class Reads(unittest.TestCase):
    def test_numbers_and_values_read_no_cell(self):
        self.assertEqual(Number(5).reads(), [])
        self.assertEqual(Value("i").reads(), [])
        self.assertEqual(Joined("+", Number(5), Value("i")).reads(), [])

    def test_a_cell_reads_itself(self):
        spots = (("i", 0), ("", -2), ("j", 3))
        self.assertEqual(Cell("a", spots).reads(), [("a", spots)])

    def test_from_left_to_right_each_as_often_as_it_stands_there(self):
        a, b = Cell("a", (("i", 0),)), Cell("b", (("", 1),))
        for sign in "+-*":
            term = Joined(sign, Joined(sign, b, a), Joined(sign, Number(1), b))
            self.assertEqual([read[0] for read in term.reads()], ["b", "a", "b"])

    def test_a_term_of_forty_parts(self):
        for shape in (from_left, from_right, halved):
            self.assertEqual(shape("*", forty_parts()).reads(), FORTY_READS)

    def test_forty_times_one_cell(self):
        cell = Cell("a", (("i", 0),))
        for shape in (from_left, from_right, halved):
            self.assertEqual(shape("-", [cell] * 40).reads(), [("a", (("i", 0),))] * 40)

    def test_it_is_a_list_of_tuples(self):
        reads = Joined("+", Cell("a", (("i", 0),)), Cell("b", (("", 1), ("j", 2)))).reads()
        self.assertIs(type(reads), list)
        for read in reads:
            self.assertIs(type(read), tuple)
            self.assertIs(type(read[1]), tuple)


class NothingIsKept(unittest.TestCase):
    def terms(self):
        cell = Cell("a", (("i", 1),))
        return (Number(4), Value("i"), cell, Joined("-", Value("i"), cell))

    def test_worth_asked_twice_and_with_others_between(self):
        one = Asked({("a", (3,)): 100, ("a", (8,)): 200})
        for term, worth, between in zip(self.terms(), (4, 2, 100, -98), (4, 7, 200, -193)):
            self.assertEqual(term.worth({"i": 2}, one), worth)
            self.assertEqual(term.worth({"i": 2}, one), worth)
            self.assertEqual(term.worth({"i": 7}, one), between)
            self.assertEqual(term.worth({"i": 2}, one), worth)

    def test_worth_with_other_cells_between(self):
        cell = Cell("a", (("", 1),))
        one, other = Asked({("a", (1,)): 5}), Asked({("a", (1,)): 6})
        self.assertEqual([cell.worth({}, cells) for cells in (one, other, one)], [5, 6, 5])

    def test_values_are_not_changed(self):
        values = {"j": 1, "i": 2}
        for term in self.terms():
            term.worth(values, Asked())
        placed((("i", 0), ("", 3)), values)
        self.assertEqual(list(values.items()), [("j", 1), ("i", 2)])

    def test_values_changed_behind_the_call(self):
        values = {"i": 2}
        place = placed((("i", 1),), values)
        worth = Value("i").worth(values, refused)
        values["i"] = 50
        self.assertEqual((place, worth), ((3,), 2))
        self.assertEqual(placed((("i", 1),), values), (51,))

    def test_placed_asked_twice_and_with_others_between(self):
        spots = (("i", 1), ("", 4))
        answers = [placed(spots, {"i": value}) for value in (2, 2, 9, 2)]
        self.assertEqual(answers, [(3, 4), (3, 4), (10, 4), (3, 4)])

    def test_a_told_list_of_reads_is_the_askers_own(self):
        for term in self.terms() + (Joined("+", Number(1), Cell("b", (("", 0),))),
                                    Joined("+", Cell("b", (("", 0),)), Number(1))):
            before = list(term.reads())
            told = term.reads()
            told.append("more")
            told.insert(0, "ahead")
            self.assertEqual(term.reads(), before)

    def test_reads_are_not_changed_by_asking_for_worth(self):
        term = Joined("+", Cell("a", (("i", 0),)), Cell("b", (("i", 2),)))
        before = term.reads()
        term.worth({"i": 5}, Asked())
        self.assertEqual(term.reads(), before)
        self.assertEqual(before, [("a", (("i", 0),)), ("b", (("i", 2),))])


if __name__ == "__main__":
    unittest.main()
