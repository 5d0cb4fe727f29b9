"""[4.1] to [4.3]: words laid by the told cheapest steps, collations, their kinds, and rows out of columns."""

import itertools
import unittest

from tests.helper import (
    AGAIN, CROSS, EVERY, GREAT, KEEP, LEAVE, LONG_ROWS, NOUGHTS, OTHERS, PRICE_ROWS, USUAL, VellumCase,
    short_rows, small_pairs,
)
from vellum.collate import collated, column_kinds, laid_words, row_back
from vellum.least import least_slips

# Prices by which a word is sooner lost and another one added than turned.
NO_TURN = (9, 9, 2, 2, 1, 1, 3)


def row(text):
    return tuple(text.split())


def laid_otherwise(base, steps):
    """[4.1] as it stands: each kind of step for itself."""
    places = dict.fromkeys(range(len(base)))
    gaps = {gap: [] for gap in range(len(base) + 1)}
    copy = []
    i = 0
    for kind, *said in steps:
        if kind == "keep":
            places[i] = base[i]
            copy.append(base[i])
        if kind == "turn":
            places[i] = said[0]
            copy.append(said[0])
        if kind == "swap":
            places[i] = base[i + 1]
            places[i + 1] = base[i]
            copy += [base[i + 1], base[i]]
        if kind in ("add", "twice"):
            copy.append(said[0] if kind == "add" else copy[-1])
            gaps[i].append(copy[-1])
        i += {"keep": 1, "turn": 1, "lose": 1, "add": 0, "twice": 0, "swap": 2}[kind] if kind != "skip" else said[0]
    return (tuple(places.values()), tuple(map(tuple, gaps.values())))


class Laid(VellumCase):
    def laid(self, base, copy, prices, steps, places, gaps):
        """The told steps are these (so that the test speaks of what it means to), and so the words are laid."""
        self.told(least_slips(base, copy, prices)[1], steps)
        self.told(laid_words(base, copy, prices), (places, gaps))

    def test_keep(self):
        for prices in PRICE_ROWS:
            self.laid(row("in the house"), row("in the house"), prices, (KEEP,) * 3, row("in the house"), ((),) * 4)

    def test_turn(self):
        self.laid(row("in the"), row("in she"), USUAL, (KEEP, ("turn", "she")), row("in she"), ((),) * 3)
        self.laid(row("in the"), row("house the"), USUAL, (("turn", "house"), KEEP), row("house the"), ((),) * 3)

    def test_lose(self):
        self.laid(row("in the"), row("the"), USUAL, (LEAVE, KEEP), (None, "the"), ((),) * 3)
        self.laid(row("in the"), row("in"), USUAL, (KEEP, LEAVE), ("in", None), ((),) * 3)
        self.laid(row("in all the"), row("in the"), USUAL, (KEEP, LEAVE, KEEP), ("in", None, "the"), ((),) * 4)

    def test_skip(self):
        self.laid(row("in the old the house"), row("in the house"), USUAL, (KEEP, KEEP, ("skip", 2), KEEP),
                  ("in", "the", None, None, "house"), ((),) * 6)
        self.laid(row("the a b c the"), row("the"), USUAL, (KEEP, ("skip", 4)), ("the",) + (None,) * 4, ((),) * 6)
        self.laid(row("the the house"), row("the house"), (9, 9, 9, 9, 9, 9, 1), (KEEP, ("skip", 1), KEEP),
                  ("the", None, "house"), ((),) * 4)

    def test_a_skip_behind_a_word_that_was_not_written(self):
        self.laid(row("the old the house"), row("house"), (9, 9, 2, 9, 9, 9, 3), (LEAVE, ("skip", 2), KEEP),
                  (None, None, None, "house"), ((),) * 5)

    def test_a_swap_lays_what_it_writes_first_in_the_first_place(self):
        self.laid(row("in the"), row("the in"), USUAL, (CROSS,), ("the", "in"), ((),) * 3)
        self.laid(row("x in the y"), row("x the in y"), USUAL, (KEEP, CROSS, KEEP), row("x the in y"), ((),) * 5)
        self.laid(row("in the old house"), row("the in house old"), USUAL, (CROSS, CROSS), row("the in house old"),
                  ((),) * 5)

    def test_add_in_every_gap(self):
        base = row("in the old house")
        for gap in range(5):
            copy = base[:gap] + ("new",) + base[gap:]
            steps = (KEEP,) * gap + (("add", "new"),) + (KEEP,) * (4 - gap)
            self.laid(base, copy, NO_TURN, steps, base, ((),) * gap + (("new",),) + ((),) * (4 - gap))

    def test_several_adds_in_every_gap(self):
        base = row("in the old house")
        for gap in range(5):
            copy = base[:gap] + row("z y x") + base[gap:]
            self.told(laid_words(base, copy, NO_TURN), (base, ((),) * gap + (row("z y x"),) + ((),) * (4 - gap)))

    def test_adds_in_all_gaps_at_once(self):
        self.told(laid_words(row("in the"), row("k l in m the n o p"), USUAL),
                  (row("in the"), (("k", "l"), ("m",), ("n", "o", "p"))))

    def test_twice_in_every_gap(self):
        base = row("in the old house")
        for gap in range(1, 5):
            copy = base[:gap] + (base[gap - 1],) + base[gap:]
            steps = (KEEP,) * gap + (AGAIN,) + (KEEP,) * (4 - gap)
            self.laid(base, copy, USUAL, steps, base, ((),) * gap + ((base[gap - 1],),) + ((),) * (4 - gap))
        # Ahead of all words it needs an add.
        self.laid(base, ("new", "new") + base, USUAL, (("add", "new"), AGAIN) + (KEEP,) * 4, base,
                  (("new", "new"), (), (), (), ()))

    def test_twice_behind_each_step_that_writes(self):
        dear = (9, 9, 9, 9, 1, 1, 9)
        self.laid(row("in the"), row("in in in the"), dear, (KEEP, AGAIN, AGAIN, KEEP), row("in the"),
                  ((), ("in", "in"), ()))
        self.laid(("in",), ("on", "on"), dear, (("turn", "on"), AGAIN), ("on",), ((), ("on",)))
        self.laid(row("in the"), row("the in in"), dear, (CROSS, AGAIN), ("the", "in"), ((), (), ("in",)))
        self.laid((), row("a a b b b"), dear, (("add", "a"), AGAIN, ("add", "b"), AGAIN, AGAIN), (),
                  (row("a a b b b"),))

    def test_words_that_are_left_out_are_done(self):
        # So the gap is the one behind them, where the add comes behind the lose ..
        self.laid(("in",), ("house",), NO_TURN, (LEAVE, ("add", "house")), (None,), ((), ("house",)))
        self.laid(row("in the"), row("old house"), NO_TURN, (LEAVE, LEAVE, ("add", "old"), ("add", "house")),
                  (None, None), ((), (), ("old", "house")))
        self.laid(row("one three seven"), row("one one seven"), NO_TURN, (KEEP, LEAVE, AGAIN, KEEP),
                  ("one", None, "seven"), ((), (), ("one",), ()))
        # .. and the one ahead of them, where it comes ahead of the skip.
        self.laid(row("the old the house"), row("the new house"), (9, 9, 9, 1, 9, 9, 1),
                  (KEEP, ("add", "new"), ("skip", 2), KEEP), ("the", None, None, "house"), ((), ("new",), (), (), ()))

    def test_it_is_the_told_row_of_steps(self):
        # Of two words of the base that could be kept, the first one is.
        self.laid(("a", "a"), ("a",), USUAL, (KEEP, LEAVE), ("a", None), ((), (), ()))
        self.laid(("a",), ("a", "a"), (9, 9, 9, 5, 5, 9, 9), (KEEP, ("add", "a")), ("a",), ((), ("a",)))
        # A turn comes ahead of lose and add of the same price, these ahead of a swap.
        self.laid(("a",), ("b",), (4, 4, 2, 2, 9, 9, 9), (("turn", "b"),), ("b",), ((), ()))
        self.laid(("a", "b"), ("b", "a"), (4, 4, 3, 3, 3, 6, 3), (LEAVE, KEEP, ("add", "a")), (None, "b"),
                  ((), (), ("a",)))

    def test_the_empty_base(self):
        self.told(laid_words((), (), USUAL), ((), ((),)))
        self.told(laid_words((), row("a b a"), USUAL), ((), (row("a b a"),)))
        self.told(laid_words((), EVERY, USUAL), ((), (EVERY,)))

    def test_the_empty_copy(self):
        self.told(laid_words(("a",), (), USUAL), ((None,), ((), ())))
        self.told(laid_words(EVERY, (), USUAL), ((None,) * 40, ((),) * 41))
        self.told(laid_words(("a",) * 40, (), NOUGHTS), ((None,) * 40, ((),) * 41))

    def test_forty_words(self):
        self.told(laid_words(EVERY, EVERY, USUAL), (EVERY, ((),) * 41))
        self.told(laid_words(EVERY, OTHERS, USUAL), (OTHERS, ((),) * 41))
        self.told(laid_words(EVERY, OTHERS, NO_TURN), ((None,) * 40, ((),) * 40 + (OTHERS,)))
        self.told(laid_words(EVERY, EVERY[1:], (GREAT,) * 7), ((None,) + EVERY[1:], ((),) * 41))

    def test_every_small_pair(self):
        for base, copy in small_pairs():
            for prices in PRICE_ROWS:
                self.told(laid_words(base, copy, prices), laid_otherwise(base, least_slips(base, copy, prices)[1]))

    def test_long_rows(self):
        kinds = set()
        for place, base in enumerate(LONG_ROWS):
            for copy in LONG_ROWS + [EVERY[:7] + base[:20] + EVERY[7:9] + base[23:30]]:
                steps = least_slips(base, copy, PRICE_ROWS[place])[1]
                kinds |= {step[0] for step in steps}
                self.told(laid_words(base, copy, PRICE_ROWS[place]), laid_otherwise(base, steps))
        self.assertEqual(kinds, {"keep", "turn", "lose", "add", "twice", "swap", "skip"})


class Collated(VellumCase):
    def columns(self, base, copies, prices, columns, kinds):
        self.told(collated(base, copies, prices), columns)
        self.told(column_kinds(base, copies, prices), kinds)

    def test_by_hand(self):
        self.columns(
            row("in the house of the king"),
            (row("in the king"), row("the in house of of the old ring"), row("in house x of the king y y"), ()), USUAL,
            (
                ("in", "in", "the", "in", None),
                ("the", "the", "in", "house", None),
                ("house", None, "house", "x", None),
                ("of", None, "of", "of", None),
                (None, None, "of", None, None),
                ("the", None, "the", "the", None),
                (None, None, "old", None, None),
                ("king", "king", "ring", "king", None),
                (None, None, None, "y", None),
                (None, None, None, "y", None),
            ),
            (0, 1, 2, 3, None, 4, None, 5, None, None))

    def test_places_in_all_gaps(self):
        self.columns(
            row("in the"), (row("k in the"), row("in l m the"), row("o in p the q r")), USUAL,
            (
                (None, "k", None, "o"),
                ("in", "in", "in", "in"),
                (None, None, "l", "p"),
                (None, None, "m", None),
                ("the", "the", "the", "the"),
                (None, None, None, "q"),
                (None, None, None, "r"),
            ),
            (None, 0, None, None, 1, None, None))

    def test_fewer_words_in_a_gap_than_places(self):
        for gap in range(3):
            ahead = row("in the")[:gap]
            behind = row("in the")[gap:]
            copies = tuple(ahead + EVERY[:many] + behind for many in (2, 0, 4, 1, 3))
            awaited = [(word,) * 6 for word in ahead]
            awaited += [
                (None, EVERY[0], None, EVERY[0], EVERY[0], EVERY[0]),
                (None, EVERY[1], None, EVERY[1], None, EVERY[1]),
                (None, None, None, EVERY[2], None, EVERY[2]),
                (None, None, None, EVERY[3], None, None),
            ]
            awaited += [(word,) * 6 for word in behind]
            kinds = (0, 1)[:gap] + (None,) * 4 + (0, 1)[gap:]
            self.columns(row("in the"), copies, NO_TURN, tuple(awaited), kinds)

    def test_a_swap(self):
        self.columns(row("x in the y"), (row("x the in y"), row("x in the y")), USUAL,
                     (("x", "x", "x"), ("in", "the", "in"), ("the", "in", "the"), ("y", "y", "y")), (0, 1, 2, 3))

    def test_no_copies(self):
        self.columns(row("in the in"), (), USUAL, (("in",), ("the",), ("in",)), (0, 1, 2))
        self.columns((), (), USUAL, (), ())
        self.columns(EVERY, (), NOUGHTS, tuple((word,) for word in EVERY), tuple(range(40)))

    def test_the_empty_base(self):
        self.columns((), (row("a b"), (), row("c")), USUAL, ((None, "a", None, "c"), (None, "b", None, None)),
                     (None, None))
        self.columns((), ((), ()), USUAL, (), ())
        self.columns((), (OTHERS, EVERY), USUAL, tuple((None,) + pair for pair in zip(OTHERS, EVERY)), (None,) * 40)

    def test_the_empty_copy(self):
        self.columns(row("in the"), ((),), USUAL, (("in", None), ("the", None)), (0, 1))
        self.columns(row("in the"), ((), row("in"), ()), USUAL,
                     (("in", None, "in", None), ("the", None, None, None)), (0, 1))

    def test_like_copies(self):
        self.columns(row("in the"), (row("in old the"),) * 3, USUAL,
                     (("in",) * 4, (None, "old", "old", "old"), ("the",) * 4), (0, None, 1))

    def test_words_of_gaps_stand_one_behind_another_in_their_copy_alone(self):
        # Two copies add the same word at other places of a gap: it is not drawn together.
        self.columns(row("in"), (row("in a b"), row("in b")), NO_TURN,
                     (("in", "in", "in"), (None, "a", "b"), (None, "b", None)), (0, None, None))

    def fits(self, base, copies, prices):
        """[4.1] and [4.2], told of the columns by what lies around them."""
        columns = collated(base, copies, prices)
        laid = [laid_words(base, copy, prices) for copy in copies]
        awaited, kinds = [], []
        for gap in range(len(base) + 1):
            rows = [()] + [gaps[gap] for places, gaps in laid]
            awaited += itertools.zip_longest(*rows)
            kinds += [None] * max(map(len, rows))
            if gap < len(base):
                awaited.append(tuple([base[gap]] + [places[gap] for places, gaps in laid]))
                kinds.append(gap)
        self.told(columns, tuple(awaited))
        self.told(column_kinds(base, copies, prices), tuple(kinds))
        self.assertEqual([column[0] is None for column in columns], [kind is None for kind in kinds])
        for number, awaited in enumerate((base,) + copies):
            self.told(row_back(columns, number), awaited)

    def test_all_small_rows_together(self):
        rows = short_rows(("a", "b", "cc"), 2) + short_rows(("a", "cc"), 4)[7:]
        for base in rows:
            for prices in PRICE_ROWS:
                self.fits(base, tuple(rows[:29]), prices)

    def test_twenty_nine_copies_of_forty_words(self):
        others = tuple((base * 2)[shift:shift + 40] for base in LONG_ROWS[1:] for shift in range(1, 7))[:27]
        self.fits(EVERY, (EVERY[::-1], OTHERS) + others, USUAL)
        self.fits(LONG_ROWS[4], (EVERY, OTHERS) + others, (0, GREAT, 0, GREAT, 1, GREAT, 0))

    def test_a_gap_of_each_copy_s_own(self):
        base = EVERY[:28]
        copies = tuple(base[:gap] + OTHERS[:12] + base[gap:] for gap in range(29))
        self.fits(base, copies, (9, 9, 1, 1, 9, 9, 9))
        self.assertEqual(len(collated(base, copies, (9, 9, 1, 1, 9, 9, 9))), 28 + 29 * 12)

    def test_what_is_handed_in_stays_as_it_was(self):
        base, copies = row("in the"), (row("in old the"), ())
        one = collated(base, copies, USUAL)
        collated(base, copies, NOUGHTS)
        column_kinds(base, copies, USUAL)
        self.assertEqual((base, copies), (row("in the"), (row("in old the"), ())))
        self.told(collated(base, copies, USUAL), one)


class Back(VellumCase):
    def test_the_base_and_its_copies(self):
        base, copies = row("in the house"), (row("the in"), (), row("in the old house old"))
        columns = collated(base, copies, USUAL)
        self.told(row_back(columns, 0), base)
        for number, copy in enumerate(copies):
            self.told(row_back(columns, number + 1), copy)

    def test_columns_that_no_collation_made(self):
        columns = (("a", None, "b"), (None, None, None), (None, "c", "c"), ("a", "a", None), (None, "d", None))
        self.told(row_back(columns, 0), ("a", "a"))
        self.told(row_back(columns, 1), ("c", "a", "d"))
        self.told(row_back(columns, 2), ("b", "c"))

    def test_no_column(self):
        for number in range(30):
            self.told(row_back((), number), ())

    def test_columns_of_one_entry(self):
        self.told(row_back((("a",), (None,), ("b",)), 0), ("a", "b"))
        self.told(row_back(((None,),), 0), ())

    def test_a_row_of_none_alone(self):
        self.told(row_back((("a", None), ("b", None)), 1), ())
        self.told(row_back(((None, "a"), (None, "b")), 0), ())

    def test_columns_of_thirty_entries(self):
        columns = (EVERY[:30], (None,) * 30, OTHERS[:30], tuple(EVERY[k] if k % 2 else None for k in range(30)))
        for number in range(30):
            awaited = (EVERY[number], OTHERS[number]) + ((EVERY[number],) if number % 2 else ())
            self.told(row_back(columns, number), awaited)

    def test_many_columns(self):
        columns = tuple((EVERY[k % 40], None if k % 3 else "a") for k in range(1200))
        self.told(row_back(columns, 0), EVERY * 30)
        self.told(row_back(columns, 1), ("a",) * 400)

    def test_small_columns(self):
        for columns in itertools.product(itertools.product(("a", "b", None), repeat=2), repeat=3):
            for number in range(2):
                awaited = [column[number] for column in columns]
                while None in awaited:
                    awaited.remove(None)
                self.told(row_back(columns, number), tuple(awaited))


if __name__ == "__main__":
    unittest.main()
