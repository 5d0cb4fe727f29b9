"""How an apparatus, the base's entries and the notes, is written, and read back."""

from vellum.errors import NoNotes
from vellum.notes import collation_back
from vellum.words import MOST_PRICE, is_word, number_of

MOST_ROWS = 30
NO_ENTRY = "-"


def entry_written(entry):
    return NO_ENTRY if entry is None else entry


def reading_written(entry, rows):
    return entry_written(entry) + " " + ",".join([str(row) for row in rows])


def note_written(number, readings):
    return str(number) + ": " + "; ".join([reading_written(entry, rows) for entry, rows in readings])


def apparatus_written(entries, notes):
    lines = [" | ".join([entry_written(entry) for entry in entries])]
    lines.extend([note_written(number, readings) for number, readings in notes])
    return "\n".join(lines)


def entry_read(text):
    if text == NO_ENTRY:
        return None
    if not is_word(text):
        raise NoNotes("an entry that is no word")
    return text


def entries_read(line):
    # Splitting the empty text gives one empty entry, not none.
    if line == "":
        return ()
    return tuple([entry_read(part) for part in line.split(" | ")])


def number_read(text):
    number = number_of(text, MOST_PRICE)
    if number is None:
        raise NoNotes("not a number as it is written")
    return number


# The two parts of a text; more or fewer of them write nothing here.
def parts_read(text, between):
    parts = text.split(between)
    if len(parts) != 2:
        raise NoNotes("not two parts")
    return parts


def reading_read(text):
    parts = parts_read(text, " ")
    return (entry_read(parts[0]), tuple([number_read(row) for row in parts[1].split(",")]))


def note_read(line):
    parts = parts_read(line, ": ")
    return (number_read(parts[0]), tuple([reading_read(reading) for reading in parts[1].split("; ")]))


def apparatus_read(text):
    lines = text.split("\n")
    entries = entries_read(lines[0])
    notes = tuple([note_read(line) for line in lines[1:]])
    # What comes back is of no use here, but notes that are none are refused by it.
    collation_back(entries, MOST_ROWS, notes)
    return (entries, notes)
