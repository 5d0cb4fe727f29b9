"""[0.2], [0.3], [1.1], [1.2], [1.3]: words, rows, numbers and prices."""

import itertools
import unittest

from tests.helper import VellumCase
from vellum.errors import NoPrices, NoRow
from vellum.words import (
    is_word, looks_alike, number_of, prices_read, prices_written, row_read, row_written,
)

BOUND = 10 ** 30
# Every sign that may be handed in, but the letters a to z.
OTHER_SIGNS = [chr(code) for code in range(32, 127) if not "a" <= chr(code) <= "z"] + ["\n", "\r", "\t"]
# Signs that Python's own questions would take for letters or figures.
FOREIGN_LETTERS = ("\u00e9", "\u00df", "\u03b1", "\u0430", "\u00aa")
FOREIGN_FIGURES = ("\u0661", "\u00b2", "\uff11", "\u0967")


class Words(VellumCase):
    def test_one_to_twelve_letters(self):
        for many in range(1, 13):
            self.told(is_word("a" * many), True)
            self.told(is_word("z" * many), True)
        self.told(is_word("abcdefghijkl"), True)
        self.told(is_word("mnopqrstuvwx"), True)
        self.told(is_word("yz"), True)

    def test_too_many_letters(self):
        self.told(is_word("abcdefghijklm"), False)
        self.told(is_word("a" * 4000), False)

    def test_the_empty_text(self):
        self.told(is_word(""), False)

    def test_any_other_sign(self):
        for sign in OTHER_SIGNS:
            for text in (sign, sign + "ab", "a" + sign + "b", "ab" + sign):
                self.told(is_word(text), False)

    def test_great_letters(self):
        for text in ("A", "Ab", "aB", "AB", "Z"):
            self.told(is_word(text), False)

    def test_letters_and_figures_of_other_scripts(self):
        for sign in FOREIGN_LETTERS + FOREIGN_FIGURES:
            self.told(is_word(sign), False)
            self.told(is_word("a" + sign), False)


class LookingAlike(VellumCase):
    def both_ways(self, one, two, awaited):
        self.told(looks_alike(one, two), awaited)
        self.told(looks_alike(two, one), awaited)

    def test_one_place_differs(self):
        for place in range(12):
            word = "abcdefghijkl"
            self.both_ways(word, word[:place] + "z" + word[place + 1:], True)
        self.both_ways("a", "b", True)
        self.both_ways("on", "an", True)

    def test_a_word_and_itself(self):
        for word in ("a", "ab", "aa", "abcdefghijkl"):
            self.told(looks_alike(word, word), False)

    def test_unlike_lengths(self):
        self.both_ways("a", "ab", False)
        self.both_ways("ab", "cb", True)
        self.both_ways("ab", "cbd", False)
        self.both_ways("abc", "abd", True)
        self.both_ways("abc", "abdc", False)
        self.both_ways("a", "abcdefghijkl", False)

    def test_two_places_or_more_differ(self):
        self.both_ways("ab", "ba", False)
        self.both_ways("ab", "cd", False)
        self.both_ways("abc", "xby", False)
        self.both_ways("abcdefghijkl", "zbcdefghijkz", False)
        self.both_ways("aaaa", "bbbb", False)

    def test_letters_moved_by_one_place(self):
        self.both_ways("abcd", "bcda", False)


class Rows(VellumCase):
    def there_and_back(self, row, text):
        self.told(row_written(row), text)
        self.told(row_read(text), row)

    def test_no_word(self):
        self.there_and_back((), "")

    def test_one_word(self):
        self.there_and_back(("a",), "a")
        self.there_and_back(("abcdefghijkl",), "abcdefghijkl")

    def test_some_words(self):
        self.there_and_back(("in", "the", "beginning"), "in the beginning")
        self.there_and_back(("a", "a", "b", "a"), "a a b a")

    def test_forty_words(self):
        row = tuple("word" for place in range(40))
        self.there_and_back(row, "word " * 39 + "word")
        row = tuple("abcdefghijkl" for place in range(40))
        self.there_and_back(row, " ".join(row))

    def test_forty_one_words(self):
        self.refused(NoRow, row_read, "a " * 40 + "a")
        self.refused(NoRow, row_read, "a " * 1999 + "a")

    def test_blanks(self):
        for text in (" ", "  ", " a", "a ", "a  b", "a   b", "  a", "a  ", " a b", "a b ", " " * 4000):
            self.refused(NoRow, row_read, text)

    def test_line_ends(self):
        for text in ("\n", "a\n", "\na", "a\nb", "a \nb", "a\n b", "a b\n", "\n\n", "a \n"):
            self.refused(NoRow, row_read, text)

    def test_signs_that_are_no_letters(self):
        for sign in OTHER_SIGNS:
            for text in ("ab " + sign, sign + "b c", "b" + sign + " c"):
                self.refused(NoRow, row_read, text)
            if sign != " ":
                text = "a b" + sign + "c d"
                self.refused(NoRow, row_read, text)

    def test_a_word_of_thirteen_letters(self):
        for text in ("abcdefghijklm", "a abcdefghijklm", "abcdefghijklm a", "a abcdefghijklm a", "a" * 4000):
            self.refused(NoRow, row_read, text)

    def test_just_the_written_texts_are_read(self):
        """Of all short texts, those are read that some row writes, to that row."""
        words = ["".join(signs) for many in range(1, 6) for signs in itertools.product("ab", repeat=many)]
        rows = {row_written(row): row for many in range(4) for row in itertools.product(words, repeat=many)
                if sum(len(word) + 1 for word in row) <= 6}
        read = 0
        for many in range(6):
            for signs in itertools.product("ab \nA", repeat=many):
                text = "".join(signs)
                if text in rows:
                    self.told(row_read(text), rows[text])
                    read += 1
                else:
                    self.refused(NoRow, row_read, text)
        self.assertEqual(read, len(rows))

    def test_what_is_written_stays_as_it_was(self):
        row = ("in", "the")
        row_written(row)
        self.assertEqual(row, ("in", "the"))


class Numbers(VellumCase):
    def test_each_number_up_to_its_bound(self):
        for most in (0, 1, 9, 10, 11, 99, 100, 120):
            for number in range(130):
                self.told(number_of(str(number), most), number if number <= most else None)

    def test_nought(self):
        self.told(number_of("0", 0), 0)
        self.told(number_of("0", BOUND), 0)

    def test_at_the_bound_and_above(self):
        for most in (0, 1, 7, 10, 80, 999, 1000, 10 ** 9, BOUND - 1, BOUND):
            self.told(number_of(str(most), most), most)
            self.told(number_of(str(most + 1), most), None)

    def test_far_above_the_bound(self):
        for many in (2, 31, 32, 33, 100, 4000, 5000, 100000):
            self.told(number_of("9" * many, 1), None)
        self.told(number_of("9" * 30, BOUND), 10 ** 30 - 1)
        for many in (31, 32, 100, 4000, 5000, 100000):
            self.told(number_of("9" * many, BOUND), None)

    def test_needless_noughts(self):
        for text in ("00", "01", "007", "000", "0" * 4000, "0" * 100000, "0" + str(BOUND)):
            self.told(number_of(text, BOUND), None)

    def test_no_figures_alone(self):
        for text in ("", "+1", "-1", "-0", "+0", "1_0", "_1", "1_", " 1", "1 ", " ", "1\n", "\n1", "1 0",
                     "a", "1a", "a1", "1e3", "1.0", "0x1", "1,0", "--1", "+", "-", "_", "\t1", "1\r", "None"):
            self.told(number_of(text, BOUND), None)

    def test_every_other_sign(self):
        signs = [chr(code) for code in range(32, 127) if not "0" <= chr(code) <= "9"] + ["\n", "\t"]
        for sign in signs + list(FOREIGN_FIGURES):
            for text in (sign, sign + "1", "1" + sign, "1" + sign + "1"):
                self.told(number_of(text, BOUND), None)


class Prices(VellumCase):
    def there_and_back(self, prices, text):
        self.told(prices_written(prices), text)
        self.told(prices_read(text), prices)

    def in_each_place(self, part):
        """Texts of seven parts with the one in question first, last or between."""
        return [" ".join(["1"] * place + [part] + ["1"] * (6 - place)) for place in range(7)]

    def test_ordinary_prices(self):
        self.there_and_back((1, 2, 2, 2, 1, 1, 3), "1 2 2 2 1 1 3")
        self.there_and_back((10, 200, 3, 0, 50, 607, 7), "10 200 3 0 50 607 7")

    def test_noughts(self):
        self.there_and_back((0,) * 7, "0 0 0 0 0 0 0")

    def test_the_bound(self):
        self.there_and_back((BOUND,) * 7, " ".join([str(BOUND)] * 7))
        self.there_and_back((BOUND, 0, 1, BOUND - 1, 2, 3, BOUND),
                            f"{BOUND} 0 1 {BOUND - 1} 2 3 {BOUND}")

    def test_above_the_bound(self):
        for part in (str(BOUND + 1), str(10 * BOUND), "9" * 31, "9" * 3900, "9" * 100000):
            for text in self.in_each_place(part):
                self.refused(NoPrices, prices_read, text)

    def test_wrong_parts(self):
        for part in ("", "00", "01", "+1", "-1", "-0", "1_0", "a", "1a", "1\n", "\n1", "\n", "1.0", "A", "\u0661"):
            for text in self.in_each_place(part):
                self.refused(NoPrices, prices_read, text)

    def test_wrong_counts(self):
        for many in (0, 1, 2, 6, 8, 9, 14, 2000):
            self.refused(NoPrices, prices_read, " ".join(["1"] * many))

    def test_blanks_and_line_ends(self):
        for text in ("", " ", "\n", " 1 2 3 4 5 6 7", "1 2 3 4 5 6 7 ", "1  2 3 4 5 6 7", "1 2 3 4 5 6  7",
                     "1 2 3 4 5 6 7\n", "\n1 2 3 4 5 6 7", "1\n2 3 4 5 6 7", "1\n2\n3\n4\n5\n6\n7",
                     " 2 3 4 5 6 7", "1 2 3 4 5 6 ", "      ", "1,2,3,4,5,6,7", "1, 2, 3, 4, 5, 6, 7",
                     "1\t2\t3\t4\t5\t6\t7", "1234567", "(1, 2, 3, 4, 5, 6, 7)"):
            self.refused(NoPrices, prices_read, text)


if __name__ == "__main__":
    unittest.main()
