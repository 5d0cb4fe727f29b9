"""[5.3]: how an apparatus is written and read."""

import itertools
import re
import unittest

from tests.helper import EVERY, LONG_ROWS, OTHERS, USUAL, VellumCase
from vellum.collate import collated
from vellum.errors import NoNotes
from vellum.notes import notes_of
from vellum.notetext import apparatus_read, apparatus_written

HOUSE = "in | - | house\n0: on 1; - 2,4\n1: the 1,2,3,4\n2: mouse 4"

ENTRY = "(?:[a-z]{1,12}|-)"
NUMBER = "(?:0|[1-9][0-9]*)"
READING = f"{ENTRY} {NUMBER}(?:,{NUMBER})*"
BASE_LINE = re.compile(rf"(?:{ENTRY}(?: \| {ENTRY})*)?")
NOTE_LINE = re.compile(f"{NUMBER}: {READING}(?:; {READING})*")


def entry_otherwise(text):
    return None if text == "-" else text


def keeps_to_notes(entries, notes):
    """[5.2] as it stands, each way of refusal for itself, for 30 rows."""
    columns = [number for number, readings in notes]
    if columns != sorted(set(columns)) or not set(columns) <= set(range(len(entries))):
        return False
    for number, readings in notes:
        words = [entry for entry, rows in readings]
        rows = [row for entry, rows in readings for row in rows]
        firsts = [rows[0] for entry, rows in readings]
        if entries[number] in words or len(set(words)) < len(words):
            return False
        if len(set(rows)) < len(rows) or not set(rows) <= set(range(1, 30)) or firsts != sorted(firsts):
            return False
        if any(list(rows) != sorted(rows) for entry, rows in readings):
            return False
    return True


def read_otherwise(text):
    """The apparatus that a text writes by [5.3], or None."""
    first, *lines = text.split("\n")
    if not BASE_LINE.fullmatch(first) or not all(NOTE_LINE.fullmatch(line) for line in lines):
        return None
    entries = tuple(map(entry_otherwise, re.findall(ENTRY, first)))
    notes = []
    for line in lines:
        readings = []
        for entry, rows in re.findall(f"({ENTRY}) ([0-9,]+)", line.partition(": ")[2]):
            readings.append((entry_otherwise(entry), tuple(map(int, rows.split(",")))))
        notes.append((int(line.partition(":")[0]), tuple(readings)))
    return (entries, tuple(notes)) if keeps_to_notes(entries, notes) else None


class ThereAndBack(VellumCase):
    def there_and_back(self, entries, notes, text):
        self.told(apparatus_written(entries, notes), text)
        self.told(apparatus_read(text), (entries, notes))

    def whole(self, collation):
        entries, notes = tuple(column[0] for column in collation), notes_of(collation)
        text = apparatus_written(entries, notes)
        self.told(apparatus_read(text), (entries, notes))
        self.told(read_otherwise(text), (entries, notes))

    def test_no_column(self):
        self.there_and_back((), (), "")

    def test_no_notes(self):
        self.there_and_back(("in",), (), "in")
        self.there_and_back((None,), (), "-")
        self.there_and_back(("in", "the", None, "house"), (), "in | the | - | house")

    def test_by_hand(self):
        self.there_and_back(("in", None, "house"), (
            (0, (("on", (1,)), (None, (2, 4)))),
            (1, (("the", (1, 2, 3, 4)),)),
            (2, (("mouse", (4,)),)),
        ), HOUSE)

    def test_none_as_a_reading_and_as_the_base_s(self):
        self.there_and_back(("a",), ((0, ((None, (1,)),)),), "a\n0: - 1")
        self.there_and_back((None,), ((0, (("a", (1,)),)),), "-\n0: a 1")
        self.there_and_back((None, "a"), ((1, ((None, (1, 2)), ("b", (3,)))),), "- | a\n1: - 1,2; b 3")

    def test_columns_without_a_note(self):
        self.there_and_back(("a", "b", "c", "d"), ((1, (("x", (1,)),)), (3, (("x", (2,)),))),
                            "a | b | c | d\n1: x 1\n3: x 2")

    def test_thirty_rows(self):
        self.there_and_back(("a",), ((0, (("b", tuple(range(1, 30))),)),),
                            "a\n0: b 1,2,3,4,5,6,7,8,9,10,11,12,13,14,15,16,17,18,19,20,21,22,23,24,25,26,27,28,29")
        self.there_and_back(("a",), ((0, ((None, (29,)),)),), "a\n0: - 29")
        self.whole((EVERY[:30], (None,) + OTHERS[:29], ("a",) + (None,) * 29, ("a",) * 29 + ("b",)))

    def test_words_of_one_and_of_twelve_letters(self):
        self.there_and_back(("z", "abcdefghijkl"), ((0, (("abcdefghijkl", (1,)),)), (1, (("z", (1,)),))),
                            "z | abcdefghijkl\n0: abcdefghijkl 1\n1: z 1")

    def test_numbers_of_columns_of_each_length(self):
        for number in (0, 9, 10, 99, 100, 999, 1000, 1199):
            self.there_and_back(("a",) * 1200, ((number, (("b", (10,)),)),),
                                " | ".join(["a"] * 1200) + f"\n{number}: b 10")

    def test_every_small_collation(self):
        for many in range(1, 6):
            for column in itertools.product(("a", "bc", None), repeat=many):
                self.whole((column,))
        for columns in itertools.product(itertools.product(("a", "bc", None), repeat=3), repeat=2):
            self.whole(columns)

    def test_collations_of_long_rows(self):
        for base in LONG_ROWS:
            self.whole(collated(base, tuple(LONG_ROWS) + (EVERY, (), EVERY[:3] + base[5:30]), USUAL))

    def test_the_greatest(self):
        words = tuple("abcdefghijk" + letter for letter in "abcdefghijklmnopqrstuvwxyz") + EVERY[:4]
        self.whole((words,) * 1200)

    def test_more_columns_than_copies_make(self):
        self.there_and_back(("a",) * 5000, ((4999, (("b", (1,)),)),), " | ".join(["a"] * 5000) + "\n4999: b 1")

    def test_what_is_handed_in_stays_as_it_was(self):
        entries, notes = ("in", None), ((0, ((None, (1, 2)),)),)
        apparatus_written(entries, notes)
        self.assertEqual((entries, notes), (("in", None), ((0, ((None, (1, 2)),)),)))


class Refused(VellumCase):
    def no_apparatus(self, *texts):
        for text in texts:
            self.refused(NoNotes, apparatus_read, text)

    def no_entry(self, entry):
        self.no_apparatus(entry, entry + " | a", "a | " + entry, "a | " + entry + " | b", entry + "\n0: x 1")
        self.no_apparatus("a\n0: " + entry + " 1", "a\n0: x 1; " + entry + " 2", "a\n0: " + entry + " 1; x 2")

    def no_number(self, number):
        """Neither as a column's nor as a row's."""
        bases = " | ".join(["a"] * 90)
        self.no_apparatus(bases + f"\n{number}: x 1", bases + f"\n0: x 1\n{number}: x 1")
        self.no_apparatus(f"a\n0: x {number}", f"a\n0: x 1,{number}", f"a\n0: x {number},29", f"a\n0: y 1; x {number}")

    def test_such_texts_are_read_where_nothing_is_wrong(self):
        for entry in ("x", "-"):
            self.assertEqual(apparatus_read("a\n0: y 1; " + entry + " 2"), read_otherwise("a\n0: y 1; " + entry + " 2"))
        for number in ("2", "9", "28"):
            text = " | ".join(["a"] * 90) + f"\n{number}: x 1,{number},29"
            self.assertEqual(apparatus_read(text), read_otherwise(text))

    def test_needless_noughts(self):
        for number in ("00", "01", "02", "007", "029", "0" * 5000, "0" * 5000 + "1"):
            self.no_number(number)

    def test_signs_and_underscores(self):
        for number in ("+2", "-2", "-0", "+0", "1_0", "_2", "2_", "2.", "2.0", "2e0", "0x2", "#2", "(2)", "2 ", " 2",
                       "2\t", "--2", "~2", "2,", ",2"):
            self.no_number(number)

    def test_no_number(self):
        for number in ("", "a", "two", "-", "A", "None", "\u0662", "\u00b2", "\uff12"):
            self.no_number(number)

    def test_numbers_too_great(self):
        for number in ("90", "91", "1200", "1" + "0" * 30, "9" * 31, "9" * 5000, "1" * 100000):
            self.no_number(number)

    def test_great_letters(self):
        for word in ("A", "House", "hOUSE", "HOUSE", "housE"):
            self.no_entry(word)

    def test_words_of_thirteen_letters(self):
        self.no_entry("abcdefghijklm")
        self.no_entry("a" * 14)
        self.no_entry("a" * 5000)

    def test_entries_that_are_no_words(self):
        for entry in ("a1", "1", "0", "a-b", "--", "-a", "a-", "a_b", "a'", "None", "none.", "()", "\u00e9", "a\t", "~",
                      "a:", "a;", "a,", "|", "||", "a|b", ":", ";", ","):
            self.no_entry(entry)

    def test_no_entry(self):
        self.no_apparatus("a | ", " | a", "a |  | b", " | ", "a\n0:  1", "a\n0: 1", "a\n0: x 1;  2")

    def test_blanks_too_many(self):
        self.no_apparatus(" ", "  ", " a", "a ", "a  | b", "a |  b", " a | b", "a | b ", "- ", " -")
        for line in (" 0: x 1", "0 : x 1", "0:  x 1", "0: x  1", "0: x 1 ", "0: x 1 ; y 2", "0: x 1;  y 2", "0: x 1, 2",
                     "0: x 1 ,2", "0: x 1; y  2", "0: x 1; y 2 ", "0: x y 1", "0: x 1 2", "0: x 1; "):
            self.no_apparatus("a\n" + line)
        self.no_apparatus("a \n0: x 1", " a\n0: x 1")

    def test_blanks_too_few(self):
        self.no_apparatus("a| b", "a |b", "a|b", "a b", "-|-", "- -", "--")
        for line in ("0:x 1", "0 x 1", "0x 1", "0: x1", "0: x", "0: x 1;y 2", "0: x 1y 2", "0: x 1; y2", "0: -1",
                     "0: - 1;x 2"):
            self.no_apparatus("a\n" + line)

    def test_other_signs_between(self):
        self.no_apparatus("a, b", "a; b", "a : b", "a\tb", "a || b", "a | | b", "a / b")
        for line in ("0; x 1", "0, x 1", "0: x: 1", "0: x 1, y 2", "0: x 1: y 2", "0: x 1 | y 2", "0: x 1;2",
                     "0: x 1.2", "0: x 1-2", "0: 0: x 1", "0: x 1; 0: y 2", ": x 1", "0:", "0: ", "0", "x 1", "x", "-",
                     "0: ;", "0: ; ", "0: x 1;", "0: ; x 1", "0: x ,", "0: x 1,", "0: x ,1", "0: x 1,,2", "a: x 1"):
            self.no_apparatus("a\n" + line)

    def test_empty_lines(self):
        self.no_apparatus("\n", "\n\n", "a\n\n0: x 1", "a | b\n0: x 1\n\n1: x 1", "\na", "\na\n0: x 1", "\n0: x 1")

    def test_a_line_end_at_the_end(self):
        self.no_apparatus("a\n", "-\n", "a | b\n", "a\n0: x 1\n", "a\n0: x 1\n\n", HOUSE + "\n")

    def test_line_ends_within(self):
        self.no_apparatus("a |\nb", "a\n| b", "a\nb", "a\n0:\nx 1", "a\n0: x\n1", "a\n0: x 1;\ny 2", "a\n0: x 1,\n2",
                          "a\r\n0: x 1", "a\r0: x 1", "a\x0b0: x 1", "a\x850: x 1", "a\u20280: x 1")

    def test_two_notes_in_a_line(self):
        self.no_apparatus("a | b\n0: x 1 1: x 1", "a | b\n0: x 1; 1: x 1", "a | b 0: x 1", "a | b | 0: x 1")

    def test_notes_that_are_none_for_thirty_rows(self):
        # A column that is not there, or not behind the one ahead of it.
        self.no_apparatus("a\n1: x 1", "\n0: x 1", "a | b\n2: x 1", "a | b\n1: x 1\n0: x 1", "a | b\n0: x 1\n0: y 2")
        # A reading that is the base's, or stands twice.
        self.no_apparatus("a\n0: a 1", "-\n0: - 1", "a\n0: x 1; a 2", "a\n0: x 1; x 2", "a\n0: - 1; - 2")
        # Rows that do not rise, that are 0 or no row's, or that stand in two readings.
        self.no_apparatus("a\n0: x 2,1", "a\n0: x 1,1", "a\n0: x 0", "a\n0: x 0,1", "a\n0: x 30", "a\n0: x 29,30",
                          "a\n0: x 31", "a\n0: x 1; y 1", "a\n0: x 1,2; y 2")
        # Readings out of order.
        self.no_apparatus("a\n0: x 2; y 1", "a\n0: x 2,3; y 1")

    def test_no_row_and_no_reading(self):
        self.no_apparatus("a\n0: x ", "a\n0: ", "a\n0:", "a\n0: x ; y 1", "a\n0: x 1; y ")

    def test_long_texts(self):
        for text in ("a" * 600000, " | " * 200000, "a | " * 150000, "\n" * 600000, "a\n" + "0: x 1\n" * 80000,
                     "a\n0: " + "x 1; " * 110000 + "x 1", "a\n0: x " + "1," * 290000 + "1", "9" * 600000,
                     "a\n" + "9" * 590000 + ": x 1", "a\n0: x " + "9" * 590000, "a\n0: " + "x" * 590000 + " 1",
                     ": " * 300000, "a\n" + ": " * 299000, "; " * 300000, "," * 600000, " " * 600000):
            with self.assertRaises(NoNotes, msg=text[:20]):
                apparatus_read(text)


class AgainstTheOtherReading(VellumCase):
    def agrees(self, text):
        awaited = read_otherwise(text)
        if awaited is None:
            self.refused(NoNotes, apparatus_read, text)
            return False
        self.told(apparatus_read(text), awaited)
        self.told(apparatus_written(awaited[0], awaited[1]), text)
        return True

    def test_short_texts(self):
        parts = ("a", "-", "0", "1", " ", " | ", ": ", "; ", ",", "\n", "A")
        texts = {"".join(said) for many in range(5) for said in itertools.product(parts, repeat=many)}
        self.assertEqual(sum(map(self.agrees, sorted(texts))), 14)

    def test_a_note_of_short_parts(self):
        entries = ("a", "-", "x", "", "X")
        rows = ("1", "2", "1,2", "2,1", "0", "30", "29", "", "01", "1,1", "1, 2")
        readings = list(itertools.product(entries, rows))
        numbers = ("0", "1", "2", "", "00", "-1")
        texts = [f"a | -\n{number}: {entry} {said}" for number in numbers for entry, said in readings]
        texts += [f"a | -\n{number}: {one[0]} {one[1]}; {two[0]} {two[1]}" for number in ("0", "1")
                  for one in readings for two in readings]
        self.assertEqual(sum(map(self.agrees, texts)), 32)

    def test_one_sign_changed(self):
        """A sign is taken out, put in, put in another one's place, or changes places with the one behind it."""
        signs = "ax-0129 |:;,\nA_+"
        texts = set()
        for place in range(len(HOUSE) + 1):
            ahead, behind = HOUSE[:place], HOUSE[place:]
            texts.add(ahead + behind[1:])
            texts.add(ahead + behind[1:2] + behind[:1] + behind[2:])
            texts.update(ahead + sign + behind for sign in signs)
            texts.update(ahead + sign + behind[1:] for sign in signs)
        read = sum(map(self.agrees, sorted(texts)))
        self.assertGreater(read, 50)
        self.assertGreater(len(texts) - read, 1000)

    def test_lines_in_any_order(self):
        lines = ["a | -", "0: x 1", "1: x 1", "0: - 1", "1: - 1", ""]
        texts = ["\n".join(said) for many in range(1, 5) for said in itertools.product(lines, repeat=many)]
        self.assertEqual(sum(map(self.agrees, texts)), 7)


if __name__ == "__main__":
    unittest.main()
