"""[2.3]: how rows of steps are written and read."""

import itertools
import re
import unittest

from tests.helper import AGAIN, CROSS, KEEP, LEAVE, VellumCase
from vellum.errors import NoSlips
from vellum.slipnotes import slips_read, slips_written

STEPS = (KEEP, ("turn", "a"), LEAVE, ("add", "bc"), AGAIN, CROSS, ("skip", 1), ("skip", 80))


class ThereAndBack(VellumCase):
    def there_and_back(self, steps, text):
        self.told(slips_written(steps), text)
        self.told(slips_read(text), steps)

    def test_no_step(self):
        self.there_and_back((), "")

    def test_each_step_alone(self):
        self.there_and_back((KEEP,), "1")
        self.there_and_back((("turn", "house"),), "turn house")
        self.there_and_back((LEAVE,), "lose")
        self.there_and_back((("add", "the"),), "add the")
        self.there_and_back((AGAIN,), "twice")
        self.there_and_back((CROSS,), "swap")
        self.there_and_back((("skip", 3),), "skip 3")

    def test_all_seven_together(self):
        self.there_and_back(
            (KEEP, KEEP, ("turn", "on"), LEAVE, ("add", "the"), AGAIN, KEEP, CROSS, ("skip", 12), KEEP, KEEP, KEEP),
            "2, turn on, lose, add the, twice, 1, swap, skip 12, 3")

    def test_stretches_of_keeps_of_each_length(self):
        for many in range(1, 81):
            self.there_and_back((KEEP,) * many, str(many))
        for many in range(1, 79):
            self.there_and_back((LEAVE,) + (KEEP,) * many + (CROSS,), f"lose, {many}, swap")

    def test_stretches_on_both_sides(self):
        self.there_and_back((KEEP,) * 10 + (LEAVE,) + (KEEP,) * 11, "10, lose, 11")
        self.there_and_back((LEAVE, KEEP, LEAVE, KEEP, KEEP), "lose, 1, lose, 2")

    def test_each_length_of_a_skip(self):
        for many in range(1, 81):
            self.there_and_back((("skip", many),), f"skip {many}")

    def test_like_steps_side_by_side_are_written_one_by_one(self):
        self.there_and_back((LEAVE, LEAVE), "lose, lose")
        self.there_and_back((AGAIN,) * 3, "twice, twice, twice")
        self.there_and_back((("skip", 1), ("skip", 1)), "skip 1, skip 1")
        self.there_and_back((("add", "a"), ("add", "a")), "add a, add a")

    def test_words_that_are_called_like_steps(self):
        for word in ("keep", "turn", "lose", "add", "twice", "swap", "skip"):
            self.there_and_back((("turn", word), ("add", word)), f"turn {word}, add {word}")

    def test_words_of_one_and_of_twelve_letters(self):
        self.there_and_back((("turn", "z"), ("add", "abcdefghijkl")), "turn z, add abcdefghijkl")

    def test_eighty_steps(self):
        self.there_and_back((LEAVE,) * 80, ", ".join(["lose"] * 80))
        self.there_and_back((("skip", 80),) * 80, ", ".join(["skip 80"] * 80))
        self.there_and_back((("add", "abcdefghijkl"),) * 80, ", ".join(["add abcdefghijkl"] * 80))
        self.there_and_back((KEEP,) * 79 + (LEAVE,), "79, lose")
        self.there_and_back((LEAVE,) + (KEEP,) * 79, "lose, 79")

    def test_every_short_row_of_steps(self):
        for many in range(5):
            for steps in itertools.product(STEPS, repeat=many):
                text = slips_written(steps)
                self.assertEqual(text, self.written_otherwise(steps))
                self.assertEqual(slips_read(text), steps)

    def written_otherwise(self, steps):
        """Each keep for itself, and then each stretch of them put together."""
        text = ", ".join("=" if step == KEEP else " ".join(map(str, step)) for step in steps)
        return re.sub("=(, =)*", lambda found: str(found.group().count("=")), text)

    def test_what_is_handed_in_stays_as_it_was(self):
        steps = (KEEP, KEEP, ("turn", "on"))
        slips_written(steps)
        self.assertEqual(steps, (KEEP, KEEP, ("turn", "on")))


class NumbersSideBySide(VellumCase):
    def test_they_are_read(self):
        self.told(slips_read("1, 1"), (KEEP, KEEP))
        self.told(slips_read("2, 3, 1"), (KEEP,) * 6)
        self.told(slips_read("lose, 1, 2, swap"), (LEAVE, KEEP, KEEP, KEEP, CROSS))

    def test_up_to_eighty_steps(self):
        self.told(slips_read("40, 40"), (KEEP,) * 80)
        self.told(slips_read(", ".join(["1"] * 80)), (KEEP,) * 80)

    def test_they_are_written_as_one(self):
        self.told(slips_written(slips_read("2, 3, lose, 1, 1")), "5, lose, 2")


class Refused(VellumCase):
    def in_each_place(self, item):
        """The item alone, first, last and between others."""
        for text in (item, item + ", lose", "lose, " + item, "1, " + item + ", 1"):
            self.refused(NoSlips, slips_read, text)

    def test_needless_noughts(self):
        for item in ("00", "01", "001", "080", "0" * 1900, "skip 01", "skip 00", "skip 080"):
            self.in_each_place(item)

    def test_signs_and_underscores(self):
        for number in ("+1", "-1", "-0", "+0", "1_0", "_1", "1_", "1.", "1.0", "1e1", "0x1", "#1", "(1)"):
            self.in_each_place(number)
            self.in_each_place("skip " + number)

    def test_nought(self):
        self.in_each_place("0")
        self.in_each_place("skip 0")

    def test_eighty_one_and_more(self):
        for number in ("81", "82", "99", "100", "800", "1" + "0" * 30, "9" * 1900, "1" * 100000):
            self.in_each_place(number)
            self.in_each_place("skip " + number)

    def test_figures_of_other_scripts(self):
        for sign in ("\u0661", "\u00b2", "\uff11"):
            self.in_each_place(sign)
            self.in_each_place("skip " + sign)

    def test_wrong_words(self):
        for word in ("A", "House", "hOUSE", "HOUSE", "abcdefghijklm", "a" * 1900, "a1", "1", "a-b", "a_b", "a'", "-",
                     "a\n", "\na", "a\t", "\u00e9", "(a)", '"a"'):
            self.in_each_place("turn " + word)
            self.in_each_place("add " + word)

    def test_no_word(self):
        for item in ("turn", "add", "turn ", "add ", "turn  ", "add  ", "skip", "skip ", "skip  "):
            self.in_each_place(item)

    def test_two_words(self):
        for item in ("turn a b", "add a b", "turn a a", "turn a b c", "skip 1 1", "skip 1 a", "skip a 1", "turn  a",
                     "turn a ", "add  a", "add a ", "skip  1", "skip 1 ", "1 1", "turn turn a"):
            self.in_each_place(item)

    def test_a_word_or_a_number_where_none_stands(self):
        for item in ("lose a", "twice a", "swap a", "lose 1", "twice 1", "twice 2", "swap 1", "1 lose", "2 keep", "1 a"):
            self.in_each_place(item)

    def test_the_kinds_do_not_change_places(self):
        for item in ("turn 1", "add 1", "skip a", "skip the"):
            self.in_each_place(item)

    def test_kinds_that_are_none(self):
        for item in ("keep", "keep 1", "like", "like a", "write a", "Lose", "LOSE", "los", "loses", "Turn a", "ADD a",
                     "Skip 1", "skipp 1", "sk ip", "a", "the", "turna", "skip1", "lose\n", "\nlose", "None", "()",
                     "('lose',)", "-", ".", ";"):
            self.in_each_place(item)

    def test_a_comma_without_its_blank(self):
        for text in ("1,1", "lose,lose", "lose,1", "1,lose", "turn a,lose", "lose,turn a", "skip 1,1", "lose, 1,lose",
                     "lose,1, lose", "lose ,lose", "lose ,1", "lose,\nlose", "lose,\tlose", "lose;lose", "lose; lose"):
            self.refused(NoSlips, slips_read, text)

    def test_blanks_too_many(self):
        for text in (" ", "  ", " lose", "lose ", "lose,  lose", "lose , lose", " 1", "1 ", "1,  1", "1 , 1"):
            self.refused(NoSlips, slips_read, text)

    def test_empty_items(self):
        for text in (",", ", ", ", , ", "lose, ", ", lose", "lose, , lose", "1, ", ", 1", "1, , 1", "lose,", ",lose",
                     "lose,, lose", "lose, ,lose", "turn a, ", "skip 1, "):
            self.refused(NoSlips, slips_read, text)

    def test_line_ends(self):
        for text in ("\n", "lose\n", "\nlose", "lose\nlose", "1\n", "\n1", "1\n1", "turn\na", "skip\n1", "lose, \nlose"):
            self.refused(NoSlips, slips_read, text)

    def test_more_than_eighty_steps(self):
        for text in ("80, 1", "1, 80", "40, 41", "80, 80", "80, lose", "lose, 80", "79, lose, twice",
                     ", ".join(["1"] * 81), ", ".join(["lose"] * 81), ", ".join(["skip 1"] * 81),
                     ", ".join(["add a"] * 81), ", ".join(["80"] * 500), ", ".join(["40", "turn a"] * 2)):
            self.refused(NoSlips, slips_read, text)


NUMBER = "([1-9]|[1-7][0-9]|80)"
WORD = "[a-z]{1,12}"
ITEM = re.compile(f"(?P<keeps>{NUMBER})|(?P<bare>lose|twice|swap)|(?P<named>turn|add) (?P<word>{WORD})"
                  f"|skip (?P<many>{NUMBER})")


def read_otherwise(text):
    """The steps that a text writes by [2.3], or None."""
    steps = []
    for item in text.split(", ") if text else []:
        found = ITEM.fullmatch(item)
        if not found:
            return None
        if found["keeps"]:
            steps += [KEEP] * int(found["keeps"])
        elif found["bare"]:
            steps.append((found["bare"],))
        else:
            steps.append((found["named"], found["word"]) if found["named"] else ("skip", int(found["many"])))
    return tuple(steps) if len(steps) <= 80 else None


class EveryShortText(VellumCase):
    parts = ("1", "0", "8", "lose", "turn", "skip", "a", "A", " ", ",", ", ", "\n")

    def test_against_the_other_reading(self):
        read = refused = 0
        for many in range(5):
            for parts in itertools.product(self.parts, repeat=many):
                text = "".join(parts)
                awaited = read_otherwise(text)
                if awaited is None:
                    self.refused(NoSlips, slips_read, text)
                    refused += 1
                else:
                    self.told(slips_read(text), awaited)
                    read += 1
        self.assertGreater(read, 50)
        self.assertGreater(refused, 10000)


if __name__ == "__main__":
    unittest.main()
