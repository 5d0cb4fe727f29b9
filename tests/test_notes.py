"""[5.1], [5.2]: the notes of a collation, and the collation out of them."""

import itertools
import unittest

from tests.helper import EVERY, LONG_ROWS, OTHERS, USUAL, VellumCase
from vellum.collate import collated, row_back
from vellum.errors import NoNotes
from vellum.notes import collation_back, notes_of

ENTRIES = ("a", "b", None)


def small_collations():
    """Few columns of few rows, all there are of three entries."""
    for many in range(1, 6):
        for column in itertools.product(ENTRIES, repeat=many):
            yield (column,)
    for many in range(1, 4):
        yield from itertools.product(itertools.product(ENTRIES, repeat=many), repeat=2)
    for many in range(1, 3):
        yield from itertools.product(itertools.product(ENTRIES, repeat=many), repeat=3)


def base_entries(collation):
    return tuple(column[0] for column in collation)


class Notes(VellumCase):
    def test_columns_in_which_all_are_alike_are_left_out(self):
        self.told(notes_of(()), ())
        self.told(notes_of((("a", "a"), ("b", "b"))), ())
        self.told(notes_of(((None, None, None),)), ())
        self.told(notes_of((("a",), (None,), ("b",))), ())
        self.told(notes_of((("a", "a"), ("b", "c"), (None, None), ("d", "d"), ("e", None))),
                  ((1, (("c", (1,)),)), (4, ((None, (1,)),))))

    def test_each_column_that_parts(self):
        self.told(notes_of((("a", "b"), ("a", "b"), ("a", "b"))),
                  ((0, (("b", (1,)),)), (1, (("b", (1,)),)), (2, (("b", (1,)),))))

    def test_the_rows_of_a_reading_rise(self):
        self.told(notes_of((("a", "b", "a", "b", "a", "b", "b"),)), ((0, (("b", (1, 3, 5, 6)),)),))

    def test_readings_in_the_order_of_the_first_row_that_has_them(self):
        self.told(notes_of((("a", "c", "b", "c", "b"),)), ((0, (("c", (1, 3)), ("b", (2, 4)))),))
        self.told(notes_of((("a", "b", "c", "c", "b"),)), ((0, (("b", (1, 4)), ("c", (2, 3)))),))
        self.told(notes_of((("m", "m", "z", "a", "m", "y", "a", "z"),)),
                  ((0, (("z", (2, 7)), ("a", (3, 6)), ("y", (5,)))),))

    def test_none_is_a_reading(self):
        self.told(notes_of((("a", None),)), ((0, ((None, (1,)),)),))
        self.told(notes_of((("a", None, "b", None),)), ((0, ((None, (1, 3)), ("b", (2,)))),))
        self.told(notes_of((("a", "b", None, "b"),)), ((0, (("b", (1, 3)), (None, (2,)))),))

    def test_none_is_the_base_s(self):
        self.told(notes_of(((None, "a"),)), ((0, (("a", (1,)),)),))
        self.told(notes_of(((None, "a", None, "b", "a"),)), ((0, (("a", (1, 4)), ("b", (3,)))),))

    def test_thirty_rows(self):
        self.told(notes_of((EVERY[:30],)), ((0, tuple((EVERY[row], (row,)) for row in range(1, 30))),))
        self.told(notes_of((("a",) + ("b",) * 29,)), ((0, (("b", tuple(range(1, 30))),)),))
        self.told(notes_of((("a",) * 29 + ("b",),)), ((0, (("b", (29,)),)),))

    def test_twelve_hundred_columns(self):
        self.told(notes_of((("a",) * 30,) * 1200), ())
        self.told(notes_of((("a",) * 30,) * 1199 + (("a",) * 29 + (None,),)), ((1199, ((None, (29,)),)),))
        self.told(notes_of((("a", "b"),) * 1200), tuple((number, (("b", (1,)),)) for number in range(1200)))

    def test_of_a_collation(self):
        columns = collated(("in", "the", "house"), (("the", "in"), ("in", "the", "old", "house"), ()), USUAL)
        self.told(notes_of(columns), (
            (0, (("the", (1,)), (None, (3,)))),
            (1, (("in", (1,)), (None, (3,)))),
            (2, (("old", (2,)),)),
            (3, ((None, (1, 3)),)),
        ))

    def test_every_small_collation(self):
        for collation in small_collations():
            awaited = []
            for number, column in enumerate(collation):
                others = [entry for entry in dict.fromkeys(column) if entry != column[0]]
                if others:
                    rows = [tuple(row for row in range(len(column)) if column[row] == entry) for entry in others]
                    awaited.append((number, tuple(zip(others, rows))))
            self.told(notes_of(collation), tuple(awaited))


class Back(VellumCase):
    def there_and_back(self, collation):
        entries, many = base_entries(collation), len(collation[0])
        notes = notes_of(collation)
        self.told(collation_back(entries, many, notes), collation)
        self.assertEqual((entries, notes), (base_entries(collation), notes_of(collation)))

    def test_no_column(self):
        for many in range(1, 31):
            self.told(collation_back((), many, ()), ())

    def test_no_notes(self):
        self.told(collation_back(("a", None, "b"), 1, ()), (("a",), (None,), ("b",)))
        self.told(collation_back(("a", None), 3, ()), (("a", "a", "a"), (None, None, None)))
        self.told(collation_back(("a",), 30, ()), (("a",) * 30,))

    def test_by_hand(self):
        self.told(collation_back(("a", None, "b"), 4, ((0, (("c", (1, 3)), (None, (2,)))), (2, (("a", (3,)),)))),
                  (("a", "c", None, "c"), (None,) * 4, ("b", "b", "b", "a")))
        self.told(collation_back((None,), 3, ((0, (("b", (1,)), ("a", (2,)))),)), ((None, "b", "a"),))

    def test_every_small_collation(self):
        for collation in small_collations():
            self.there_and_back(collation)

    def test_thirty_rows(self):
        self.there_and_back((EVERY[:30], (None,) * 30, OTHERS[:30], ("a",) + ("b",) * 29, (None,) + ("b",) * 29))

    def test_twelve_hundred_columns(self):
        self.there_and_back(tuple((EVERY * 60)[k:k + 30] for k in range(1200)))

    def test_collations_of_long_rows(self):
        for base in LONG_ROWS:
            copies = tuple(LONG_ROWS) + (EVERY, (), EVERY[:3] + base[5:30])
            collation = collated(base, copies, USUAL)
            self.there_and_back(collation)
            back = collation_back(base_entries(collation), len(copies) + 1, notes_of(collation))
            for number, row in enumerate((base,) + copies):
                self.told(row_back(back, number), row)

    def test_more_rows_than_the_notes_speak_of(self):
        self.told(collation_back(("a",), 5, ((0, (("b", (2,)),)),)), (("a", "a", "b", "a", "a"),))


class Refused(VellumCase):
    entries = ("a", "b", None)

    def no_notes(self, *notes):
        self.refused(NoNotes, collation_back, self.entries, 4, notes)

    def notes(self, *notes):
        """Such notes are taken: so what is wrong with the ones beside them is one thing alone."""
        self.assertEqual(notes_of(collation_back(self.entries, 4, notes)), notes)

    def no_readings(self, *readings):
        """In each of the columns, alone and among others."""
        for column in range(3):
            self.no_notes((column, readings))
        self.no_notes((0, (("x", (1,)),)), (1, readings), (2, (("x", (1,)),)))

    def test_a_column_that_is_not_there(self):
        note = (("x", (1,)),)
        self.notes((2, note))
        for number in (3, 4, 1200, 10 ** 30, -1, -2, -3, -4, -10 ** 30):
            self.no_notes((number, note))
            self.no_notes((0, note), (number, note))
        self.refused(NoNotes, collation_back, (), 4, ((0, note),))
        self.refused(NoNotes, collation_back, (), 4, ((-1, note),))

    def test_columns_that_do_not_rise(self):
        one, two = (("x", (1,)),), (("x", (2,)),)
        self.notes((0, one), (1, two), (2, one))
        for pair in ((0, 0), (1, 1), (2, 2), (1, 0), (2, 0), (2, 1)):
            self.no_notes((pair[0], one), (pair[1], two))
        self.no_notes((0, one), (2, two), (1, one))
        self.no_notes((1, one), (2, two), (0, one))
        self.no_notes((0, one), (1, one), (1, one))
        self.no_notes((0, one), (-1, two))

    def test_no_readings(self):
        self.no_readings()

    def test_a_reading_that_is_the_base_s(self):
        self.no_notes((0, (("a", (1,)),)))
        self.no_notes((1, (("b", (1,)),)))
        self.no_notes((2, ((None, (1,)),)))
        self.no_notes((0, (("x", (1,)), ("a", (2,)))))
        self.no_notes((0, (("a", (1,)), ("x", (2,)))))
        self.no_notes((2, ((None, (1,)), ("x", (2,)))))
        self.no_notes((2, (("x", (1,)), (None, (2,)))))
        # What is another column's base is a reading.
        self.notes((0, (("b", (1,)), (None, (2,)))), (1, (("a", (1,)), (None, (2,)))), (2, (("a", (1,)), ("b", (2,)))))

    def test_a_reading_that_stands_twice(self):
        self.no_readings(("x", (1,)), ("x", (2,)))
        self.no_readings(("x", (1, 2)), ("x", (3,)))
        self.no_readings(("x", (1,)), ("y", (2,)), ("x", (3,)))
        self.no_readings(("x", (1,)), ("x", (1,)))
        self.no_notes((0, ((None, (1,)), (None, (2,)))))
        # In two columns it may.
        self.notes((0, (("x", (1,)),)), (1, (("x", (1,)),)))

    def test_rows_that_do_not_rise(self):
        self.no_readings(("x", (2, 1)))
        self.no_readings(("x", (1, 1)))
        self.no_readings(("x", (1, 3, 2)))
        self.no_readings(("x", (3, 2, 1)))
        self.no_readings(("x", (1, 2, 2)))
        self.no_readings(("x", (1,)), ("y", (3, 2)))
        self.notes((0, (("x", (1, 2, 3)),)))

    def test_row_nought(self):
        self.no_readings(("x", (0,)))
        self.no_readings(("x", (0, 1)))
        self.no_readings(("x", (0, 1, 2, 3)))
        self.no_readings(("x", (0,)), ("y", (1,)))
        self.no_readings(("x", (1,)), ("y", (0,)))
        # The base's own reading in its row says nothing, and is refused too.
        self.no_notes((0, (("a", (0,)),)))
        self.no_notes((0, (("a", (0,)), ("x", (1,)))))
        self.no_notes((2, ((None, (0,)),)))

    def test_a_row_that_is_not_there(self):
        for row in (4, 5, 30, 10 ** 30, -1, -2, -3, -4, -5):
            self.no_readings(("x", (row,)))
            self.no_readings(("x", (1, row)))
            self.no_readings(("x", (row, 1)))
            self.no_readings(("x", (1,)), ("y", (row,)))
        for many in range(1, 31):
            for column in range(3):
                self.refused(NoNotes, collation_back, self.entries, many, ((column, (("x", (many,)),)),))
                if many > 1:
                    self.assertEqual(
                        collation_back(self.entries, many, ((column, (("x", (many - 1,)),)),))[column],
                        (self.entries[column],) * (many - 1) + ("x",))

    def test_a_row_in_two_readings(self):
        self.no_readings(("x", (1,)), ("y", (1,)))
        self.no_readings(("x", (1, 2)), ("y", (2,)))
        self.no_readings(("x", (1, 2)), ("y", (2, 3)))
        self.no_readings(("x", (1, 3)), ("y", (2, 3)))
        self.no_readings(("x", (1, 2, 3)), ("y", (2,)), ("z", (3,)))

    def test_no_row_in_a_reading(self):
        self.no_readings(("x", ()))
        self.no_readings(("x", (1,)), ("y", ()))
        self.no_readings(("x", ()), ("y", (1,)))
        self.no_readings(("x", (1,)), ("y", ()), ("z", (2,)))
        self.no_notes((0, ((None, ()),)))
        self.no_notes((0, (("a", ()),)))
        self.no_notes((2, ((None, ()),)))

    def test_readings_out_of_order(self):
        self.no_readings(("x", (2,)), ("y", (1,)))
        self.no_readings(("x", (2, 3)), ("y", (1,)))
        self.no_readings(("x", (2,)), ("y", (1, 3)))
        self.no_readings(("x", (1,)), ("y", (3,)), ("z", (2,)))
        self.no_readings(("x", (3,)), ("y", (2,)), ("z", (1,)))
        # The words' own order is of no account.
        self.notes((0, (("z", (1, 3)), ("y", (2,)))))

    def test_a_fault_in_any_note(self):
        good = (("x", (1,)),)
        for number in range(3):
            for bad in ((), (("x", ()),), (("x", (0,)),), (("x", (4,)),), (("x", (2, 1)),)):
                notes = [(column, good) for column in range(3)]
                notes[number] = (number, bad)
                self.no_notes(*notes)

    def test_all_there_are_of_a_small_column(self):
        """Readings of at most three rows, right and wrong: just the notes of some column are taken."""
        rows = [row for many in range(3) for row in itertools.product((-1, 0, 1, 2, 3), repeat=many)]
        readings = list(itertools.product(ENTRIES, rows))
        taken = 0
        for base in ENTRIES:
            right = {notes_of(((base,) + rest,)) for rest in itertools.product(ENTRIES, repeat=2)}
            for many in range(3):
                for said in itertools.product(readings, repeat=many):
                    notes = ((0, said),)
                    if notes in right:
                        taken += 1
                        self.assertEqual(notes_of(collation_back((base,), 3, notes)), notes)
                    else:
                        with self.assertRaises(NoNotes, msg=notes):
                            collation_back((base,), 3, notes)
        # All but the empty notes of the column in which all are alike.
        self.assertEqual(taken, 3 * (3 ** 2 - 1))

    def test_all_there_are_of_two_columns(self):
        """Columns right and wrong, each with one of a few readings."""
        readings = ((("x", (1,)),), (("x", (2,)),), (("x", (1, 2)),), (), (("x", (2, 1)),))
        pairs = list(itertools.product((-1, 0, 1, 2), readings))
        right = {notes_of(((None,) + one, ("a",) + two)) for one in itertools.product((None, "x"), repeat=2)
                 for two in itertools.product(("a", "x"), repeat=2)}
        taken = set()
        for many in range(4):
            for notes in itertools.product(pairs, repeat=many):
                try:
                    self.assertEqual(notes_of(collation_back((None, "a"), 3, notes)), notes)
                    taken.add(notes)
                except NoNotes:
                    pass
        self.assertEqual(taken, right)
        self.assertEqual(len(taken), 16)


if __name__ == "__main__":
    unittest.main()
