"""Points 10, 6 and 2: how numbers, names and spots are written."""

import unittest

from furrow.words import is_name, number_of, spot_of

EIGHTEEN = "9" * 18
GREATEST = 10 ** 18 - 1
ROW_WORDS = ("for", "end", "size")
BLANKS = (" ", "\t", "\n", "\r", "\x0b", "\xa0")


def with_blanks(text):
    """The text with a blank ahead of it, at each spot in it, and behind."""
    return [text[:n] + blank + text[n:] for n in range(len(text) + 1) for blank in BLANKS]


class Numbers(unittest.TestCase):
    def written(self, text, n):
        with self.subTest(text=text):
            self.assertEqual(number_of(text), n)
            self.assertIs(type(number_of(text)), int)

    def no_number(self, text):
        with self.subTest(text=text):
            self.assertIsNone(number_of(text))

    def test_ordinary_numbers(self):
        for n in list(range(1200)) + [10 ** e for e in range(18)]:
            self.written(str(n), n)

    def test_nought_itself(self):
        self.written("0", 0)

    def test_a_nought_ahead(self):
        for text in ("00", "01", "007", "0" * 18, "0" + "9" * 17, "0" * 19):
            self.no_number(text)

    def test_noughts_behind(self):
        self.written("10", 10)
        self.written("1" + "0" * 17, 10 ** 17)

    def test_eighteen_figures_and_nineteen(self):
        self.written(EIGHTEEN, GREATEST)
        self.written("1" * 18, 111111111111111111)
        self.no_number("1" + "0" * 18)
        self.no_number("9" * 19)
        self.no_number("1" * 5000)

    def test_the_text_without_signs(self):
        self.no_number("")

    def test_texts_with_a_blank(self):
        for text in with_blanks("0") + with_blanks("12") + list(BLANKS):
            self.no_number(text)

    def test_texts_that_write_no_number(self):
        for text in ("-1", "+1", "-0", "+0", "--1", "1-", "1+1", "1.0", "1.", ".5", "1e3",
                     "0x1", "0b1", "1_0", "_1", "1,000", "i", "1i", "i1", "a", "-", "+",
                     "(1)", "[1]", "1;", "None", "True", "\xb2", "1\xb2", "\u0661", "\uff11"):
            self.no_number(text)


class Names(unittest.TestCase):
    def test_each_small_letter(self):
        for letter in "abcdefghijklmnopqrstuvwxyz":
            self.assertIs(is_name(letter), True)

    def test_one_letter_to_eight(self):
        for many in range(1, 9):
            self.assertIs(is_name("abcdefgh"[:many]), True)
        self.assertIs(is_name("zzzzzzzz"), True)

    def test_nine_letters_and_more(self):
        for text in ("abcdefghi", "z" * 9, "a" * 5000):
            self.assertIs(is_name(text), False)

    def test_the_words_of_rows(self):
        for word in ROW_WORDS:
            self.assertIs(is_name(word), False)

    def test_names_that_hold_the_words_of_rows(self):
        for word in ROW_WORDS:
            for text in (word + "s", "a" + word, word[:-1], word[1:], word[::-1]):
                with self.subTest(text=text):
                    self.assertIs(is_name(text), True)
        self.assertIs(is_name("forend"), True)

    def test_words_of_later_rows_are_names(self):
        for text in ("plan", "swap", "deed", "e", "or"):
            self.assertIs(is_name(text), True)

    def test_the_text_without_signs(self):
        self.assertIs(is_name(""), False)

    def test_texts_with_a_blank(self):
        for text in with_blanks("i") + with_blanks("abc") + with_blanks("for") + list(BLANKS):
            with self.subTest(text=text):
                self.assertIs(is_name(text), False)

    def test_texts_that_write_no_name(self):
        for text in ("I", "For", "aB", "Ab", "i1", "1", "1i", "0", "i_j", "_", "i-", "i+1",
                     "i[", "a[i]", "a.b", "-i", "i;", "\xe9", "a\xdf", "\u0430", "\xaa"):
            with self.subTest(text=text):
                self.assertIs(is_name(text), False)


class Spots(unittest.TestCase):
    def written(self, text, spot):
        with self.subTest(text=text):
            told = spot_of(text)
            self.assertEqual(told, spot)
            self.assertIs(type(told), tuple)
            self.assertEqual([type(part) for part in told], [str, int])

    def no_spot(self, text):
        with self.subTest(text=text):
            self.assertIsNone(spot_of(text))

    def test_a_number(self):
        self.written("0", ("", 0))
        self.written("7", ("", 7))
        self.written("120", ("", 120))

    def test_a_number_below_nought(self):
        self.written("-1", ("", -1))
        self.written("-30", ("", -30))
        self.no_spot("-0")

    def test_a_name(self):
        self.written("i", ("i", 0))
        self.written("abcdefgh", ("abcdefgh", 0))
        self.no_spot("abcdefghi")

    def test_a_name_and_a_number(self):
        self.written("i+1", ("i", 1))
        self.written("i-1", ("i", -1))
        self.written("abcdefgh+20", ("abcdefgh", 20))
        self.written("abcdefgh-20", ("abcdefgh", -20))
        self.no_spot("abcdefghi+1")
        self.no_spot("abcdefghi-1")

    def test_a_name_and_nought(self):
        self.written("i+0", ("i", 0))
        self.written("i-0", ("i", 0))

    def test_eighteen_figures_and_nineteen(self):
        self.written(EIGHTEEN, ("", GREATEST))
        self.written("-" + EIGHTEEN, ("", -GREATEST))
        self.written("i+" + EIGHTEEN, ("i", GREATEST))
        self.written("i-" + EIGHTEEN, ("i", -GREATEST))
        for ahead in ("", "-", "i+", "i-"):
            self.no_spot(ahead + "1" + "0" * 18)
            self.no_spot(ahead + "9" * 19)

    def test_a_nought_ahead(self):
        for ahead in ("", "-", "i+", "i-"):
            for figures in ("00", "01", "007"):
                self.no_spot(ahead + figures)

    def test_the_words_of_rows(self):
        for word in ROW_WORDS:
            for text in (word, word + "+1", word + "-1", word + "+0"):
                self.no_spot(text)
            self.written(word + "s+1", (word + "s", 1))
            self.written("a" + word + "-1", ("a" + word, -1))

    def test_the_text_without_signs(self):
        self.no_spot("")

    def test_texts_with_a_blank(self):
        for text in ("3", "-3", "i", "i+3", "ij-30"):
            for blanked in with_blanks(text):
                self.no_spot(blanked)
        for blank in BLANKS:
            self.no_spot(blank)

    def test_texts_that_write_no_spot(self):
        for text in ("+", "-", "+0", "+1", "+i", "-i", "--1", "-+1", "+-1", "i+", "i-", "i++1",
                     "i--1", "i+-1", "i-+1", "i+1+1", "i+1-1", "i-1+1", "i-1-1", "-1-1", "-1+1",
                     "1+1", "1-1", "1+i", "1-i", "-i+1", "-1+i", "i+j", "i-j", "i*2", "2i", "i2",
                     "I", "I+1", "i1+1", "(i)", "[i]", "i+1;", "i,1", "0-0", "-", "i+\u0661",
                     "\xe9+1", "i+\xb2"):
            self.no_spot(text)


class NothingIsKept(unittest.TestCase):
    def test_asked_twice_and_with_others_between(self):
        texts = ("12", "i", "i-3", "for", "", "-0", "i+0", "9" * 19, "-4", "i")
        for asked in (number_of, spot_of, is_name):
            first = [asked(text) for text in texts]
            again = [asked(text) for text in reversed(texts)]
            self.assertEqual(first, again[::-1])


if __name__ == "__main__":
    unittest.main()
