"""The refusals, as the interface tells them under furrow/errors.py."""

import unittest

from furrow.errors import (BadPlan, FurrowError, NoPlan, NoText, NoTurning,
                           NoValues, NoWidth, TooMany)

MAKERS = {
    NoText: lambda: NoText(3),
    TooMany: lambda: TooMany(),
    NoValues: lambda: NoValues([0, 2, 1]),
    NoPlan: lambda: NoPlan(),
    NoWidth: lambda: NoWidth(),
    NoTurning: lambda: NoTurning(),
    BadPlan: lambda: BadPlan(),
}


def taken(error, kind):
    """Whether `except kind` takes the error."""
    try:
        try:
            raise error
        except kind:
            return True
    except ValueError:
        return False


class Kinds(unittest.TestCase):
    def test_there_are_seven(self):
        self.assertEqual(len(MAKERS), 7)

    def test_furrow_error_stands_right_under_value_error(self):
        self.assertEqual(FurrowError.__bases__, (ValueError,))

    def test_each_stands_right_under_furrow_error(self):
        for kind in MAKERS:
            with self.subTest(kind=kind.__name__):
                self.assertEqual(kind.__bases__, (FurrowError,))

    def test_each_is_taken_by_its_own_name_and_those_above(self):
        for kind, maker in MAKERS.items():
            for name in (kind, FurrowError, ValueError):
                with self.subTest(kind=kind.__name__, name=name.__name__):
                    self.assertTrue(taken(maker(), name))

    def test_each_is_taken_by_none_of_the_six_others(self):
        for kind, maker in MAKERS.items():
            for other in MAKERS:
                if other is not kind:
                    with self.subTest(kind=kind.__name__, other=other.__name__):
                        self.assertFalse(taken(maker(), other))

    def test_furrow_error_itself_is_none_of_the_seven(self):
        for kind in MAKERS:
            with self.subTest(kind=kind.__name__):
                self.assertFalse(taken(FurrowError(), kind))

    def test_another_value_error_is_no_refusal(self):
        self.assertFalse(taken(ValueError("some other"), FurrowError))


class Fields(unittest.TestCase):
    def test_line(self):
        for line in (1, 61, 10 ** 18):
            with self.assertRaises(NoText) as caught:
                raise NoText(line)
            self.assertEqual(caught.exception.line, line)
            self.assertIs(type(caught.exception.line), int)

    def test_ring(self):
        for ring in ([0], [4, 0, 2]):
            with self.assertRaises(NoValues) as caught:
                raise NoValues(ring)
            self.assertEqual(caught.exception.ring, ring)
            self.assertIs(type(caught.exception.ring), list)

    def test_two_errors_keep_fields_of_their_own(self):
        first, second = NoText(1), NoText(2)
        self.assertEqual((first.line, second.line), (1, 2))

    def test_changing_the_list_behind_changes_nothing_of_the_error(self):
        ring = [0, 2, 1]
        error = NoValues(ring)
        words = str(error)
        ring.append(7)
        ring[0] = 9
        self.assertEqual(error.ring, [0, 2, 1])
        self.assertEqual(str(error), words)

    def test_changing_the_field_changes_nothing_of_the_list(self):
        ring = [0, 2, 1]
        NoValues(ring).ring.clear()
        self.assertEqual(ring, [0, 2, 1])

    def test_two_errors_of_one_list_have_lists_of_their_own(self):
        ring = [0, 2, 1]
        first, second = NoValues(ring), NoValues(ring)
        first.ring.pop()
        self.assertEqual(second.ring, [0, 2, 1])


if __name__ == "__main__":
    unittest.main()
