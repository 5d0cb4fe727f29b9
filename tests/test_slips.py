"""[0.3], [0.5], [2.1], [2.2]: steps, what they make and what they cost."""

import itertools
import unittest

from tests.helper import AGAIN, CROSS, KEEP, LEAVE, VellumCase
from vellum.errors import NoSlips, VellumError
from vellum.slips import copy_made, slips_price, step_after, step_price

# Sums of some of these tell which ones they are sums of.
PRICES = (1, 10, 100, 1000, 10000, 100000, 1000000)
LIKE, TURN, LOSE, ADD, TWICE, SWAP, SKIP = PRICES


class StepAfter(VellumCase):
    elder = ("in", "the", "house")

    def test_keep(self):
        self.told(step_after(self.elder, 0, None, KEEP), (1, ("in",)))
        self.told(step_after(self.elder, 1, "in", KEEP), (2, ("the",)))
        self.told(step_after(self.elder, 2, None, KEEP), (3, ("house",)))

    def test_keep_without_a_word(self):
        self.refused(NoSlips, step_after, self.elder, 3, "house", KEEP)
        self.refused(NoSlips, step_after, (), 0, None, KEEP)
        self.refused(NoSlips, step_after, (), 0, "in", KEEP)

    def test_turn(self):
        self.told(step_after(self.elder, 0, None, ("turn", "on")), (1, ("on",)))
        self.told(step_after(self.elder, 0, None, ("turn", "under")), (1, ("under",)))
        self.told(step_after(self.elder, 2, "the", ("turn", "the")), (3, ("the",)))

    def test_turn_with_the_word_itself(self):
        for done, word in enumerate(self.elder):
            self.refused(NoSlips, step_after, self.elder, done, None, ("turn", word))

    def test_turn_without_a_word(self):
        self.refused(NoSlips, step_after, self.elder, 3, "house", ("turn", "on"))
        self.refused(NoSlips, step_after, (), 0, None, ("turn", "on"))

    def test_lose(self):
        self.told(step_after(self.elder, 0, None, LEAVE), (1, ()))
        self.told(step_after(self.elder, 2, "the", LEAVE), (3, ()))

    def test_lose_without_a_word(self):
        self.refused(NoSlips, step_after, self.elder, 3, "house", LEAVE)
        self.refused(NoSlips, step_after, (), 0, None, LEAVE)

    def test_add_anywhere(self):
        self.told(step_after((), 0, None, ("add", "on")), (0, ("on",)))
        for done in range(4):
            self.told(step_after(self.elder, done, None, ("add", "on")), (done, ("on",)))
            self.told(step_after(self.elder, done, "on", ("add", "on")), (done, ("on",)))
            self.told(step_after(self.elder, done, "x", ("add", "the")), (done, ("the",)))

    def test_twice(self):
        self.told(step_after((), 0, "on", AGAIN), (0, ("on",)))
        for done in range(4):
            self.told(step_after(self.elder, done, "on", AGAIN), (done, ("on",)))

    def test_twice_with_no_word_of_the_copy(self):
        self.refused(NoSlips, step_after, (), 0, None, AGAIN)
        for done in range(4):
            self.refused(NoSlips, step_after, self.elder, done, None, AGAIN)

    def test_swap(self):
        self.told(step_after(self.elder, 0, None, CROSS), (2, ("the", "in")))
        self.told(step_after(self.elder, 1, "in", CROSS), (3, ("house", "the")))

    def test_swap_without_two_words(self):
        self.refused(NoSlips, step_after, self.elder, 2, "the", CROSS)
        self.refused(NoSlips, step_after, self.elder, 3, "the", CROSS)
        self.refused(NoSlips, step_after, ("in",), 0, None, CROSS)
        self.refused(NoSlips, step_after, (), 0, None, CROSS)

    def test_swap_of_two_like_words(self):
        self.refused(NoSlips, step_after, ("in", "in"), 0, None, CROSS)
        self.refused(NoSlips, step_after, ("the", "in", "in", "the"), 1, "the", CROSS)
        self.told(step_after(("in", "in", "the"), 1, "in", CROSS), (3, ("the", "in")))
        self.told(step_after(("in", "the", "in"), 0, None, CROSS), (2, ("the", "in")))


class SkipAfter(VellumCase):
    elder = ("a", "a", "b", "c", "a", "c")

    def test_of_one_word(self):
        self.told(step_after(self.elder, 1, "a", ("skip", 1)), (2, ()))

    def test_of_more_words(self):
        self.told(step_after(self.elder, 1, "a", ("skip", 4)), (5, ()))
        self.told(step_after(self.elder, 2, "a", ("skip", 3)), (5, ()))
        self.told(step_after(self.elder, 4, "c", ("skip", 2)), (6, ()))

    def test_the_last_word_of_the_copy_is_not_asked(self):
        for last in (None, "a", "x"):
            self.told(step_after(self.elder, 2, last, ("skip", 3)), (5, ()))

    def test_at_the_beginning(self):
        for many in range(1, 7):
            self.refused(NoSlips, step_after, self.elder, 0, None, ("skip", many))
            self.refused(NoSlips, step_after, self.elder, 0, "a", ("skip", many))
        # Counted from behind, the word ahead of the first would be the last one.
        self.refused(NoSlips, step_after, ("a", "a"), 0, None, ("skip", 1))
        self.refused(NoSlips, step_after, ("a",), 0, "a", ("skip", 1))

    def test_past_the_end(self):
        self.refused(NoSlips, step_after, ("a", "a"), 1, "a", ("skip", 2))
        self.refused(NoSlips, step_after, ("a", "a"), 2, "a", ("skip", 1))
        self.refused(NoSlips, step_after, ("a", "a"), 1, "a", ("skip", 80))
        self.refused(NoSlips, step_after, (), 0, None, ("skip", 1))

    def test_that_does_not_end_with_the_word_once_more(self):
        for done in range(1, 7):
            for many in range(1, 81):
                fits = done + many <= 6 and self.elder[done + many - 1] == self.elder[done - 1]
                if fits:
                    self.told(step_after(self.elder, done, "a", ("skip", many)), (done + many, ()))
                else:
                    self.refused(NoSlips, step_after, self.elder, done, "a", ("skip", many))


class StepPrice(VellumCase):
    elder = ("in", "the", "in", "house")

    def test_each_step_has_its_own_price(self):
        self.told(step_price(self.elder, 0, KEEP, PRICES), 0)
        self.told(step_price(self.elder, 0, ("turn", "on"), PRICES), LIKE)
        self.told(step_price(self.elder, 0, ("turn", "of"), PRICES), TURN)
        self.told(step_price(self.elder, 0, LEAVE, PRICES), LOSE)
        self.told(step_price(self.elder, 0, ("add", "on"), PRICES), ADD)
        self.told(step_price(self.elder, 1, AGAIN, PRICES), TWICE)
        self.told(step_price(self.elder, 1, CROSS, PRICES), SWAP)
        self.told(step_price(self.elder, 1, ("skip", 2), PRICES), SKIP)

    def test_turn_asks_for_the_word_that_is_to_be_done(self):
        self.told(step_price(self.elder, 1, ("turn", "tho"), PRICES), LIKE)
        self.told(step_price(self.elder, 0, ("turn", "tho"), PRICES), TURN)
        self.told(step_price(self.elder, 3, ("turn", "mouse"), PRICES), LIKE)
        self.told(step_price(self.elder, 3, ("turn", "houses"), PRICES), TURN)
        self.told(step_price(self.elder, 3, ("turn", "mouth"), PRICES), TURN)

    def test_add_costs_the_same_for_each_word(self):
        for word in ("in", "an", "the", "x"):
            self.told(step_price(self.elder, 0, ("add", word), PRICES), ADD)
            self.told(step_price(self.elder, 4, ("add", word), PRICES), ADD)
            self.told(step_price((), 0, ("add", word), PRICES), ADD)

    def test_at_the_end_of_the_elder(self):
        self.told(step_price(self.elder, 4, AGAIN, PRICES), TWICE)
        self.told(step_price((), 0, AGAIN, PRICES), TWICE)

    def test_skip_costs_the_same_whatever_its_length(self):
        elder = ("a",) * 40
        for many in range(1, 40):
            self.told(step_price(elder, 1, ("skip", many), PRICES), SKIP)

    def test_great_prices_and_noughts(self):
        great = tuple(10 ** 30 - place for place in range(7))
        self.told(step_price(self.elder, 0, ("turn", "on"), great), 10 ** 30)
        self.told(step_price(self.elder, 1, ("skip", 2), great), 10 ** 30 - 6)
        self.told(step_price(self.elder, 0, LEAVE, (0,) * 7), 0)
        self.told(step_price(self.elder, 0, KEEP, great), 0)


class RowsOfSteps(VellumCase):
    def made(self, elder, steps, copy, price):
        ahead = repr((elder, steps))
        self.told(copy_made(elder, steps), copy)
        self.told(slips_price(elder, steps, PRICES), price)
        self.assertEqual(repr((elder, steps)), ahead)

    def not_made(self, elder, steps):
        self.refused(NoSlips, copy_made, elder, steps)
        self.refused(NoSlips, slips_price, elder, steps, PRICES)

    def test_the_empty_elder(self):
        self.made((), (), (), 0)
        self.made((), (("add", "a"), AGAIN), ("a", "a"), ADD + TWICE)

    def test_steps_that_can_not_be_made_of_the_empty_elder(self):
        for step in (KEEP, ("turn", "a"), LEAVE, AGAIN, CROSS, ("skip", 1)):
            self.not_made((), (step,))

    def test_keeps_alone(self):
        self.made(("in", "the", "house"), (KEEP,) * 3, ("in", "the", "house"), 0)

    def test_all_together(self):
        elder = ("in", "the", "old", "house", "of", "the", "a", "b", "c", "d")
        steps = (KEEP, KEEP, ("skip", 4), ("turn", "e"), ("turn", "xx"), ("add", "y"), AGAIN, CROSS)
        self.made(elder, steps, ("in", "the", "e", "xx", "y", "y", "d", "c"),
                  SKIP + LIKE + TURN + ADD + TWICE + SWAP)
        steps = (LEAVE, LEAVE, ("skip", 4), LEAVE, LEAVE, LEAVE, LEAVE)
        self.made(elder, steps, (), 6 * LOSE + SKIP)

    def test_the_price_counts_each_step(self):
        self.made(("a", "b", "c"), (("turn", "b"), ("turn", "cc"), ("turn", "d")), ("b", "cc", "d"), 2 * LIKE + TURN)
        self.made(("a",), (("add", "x"), AGAIN, AGAIN, KEEP, ("add", "x")), ("x", "x", "x", "a", "x"),
                  2 * ADD + 2 * TWICE)

    def test_like_and_turn_follow_the_elder_s_place(self):
        self.made(("ab", "cd"), (LEAVE, ("turn", "cb")), ("cb",), LOSE + LIKE)
        self.made(("ab", "cd"), (LEAVE, ("turn", "xb")), ("xb",), LOSE + TURN)
        self.made(("ab", "xy", "cd"), (CROSS, ("turn", "ad")), ("xy", "ab", "ad"), SWAP + LIKE)
        self.made(("ab", "xy", "ab", "cd"), (KEEP, ("skip", 2), ("turn", "ad")), ("ab", "ad"), SKIP + LIKE)

    def test_words_left_at_the_end(self):
        self.not_made(("a",), ())
        self.not_made(("a", "b"), (KEEP,))
        self.not_made(("a", "b", "c"), (CROSS,))
        self.not_made(("a", "b", "a", "c"), (KEEP, ("skip", 2)))
        self.not_made(("a",), (("add", "a"), AGAIN))

    def test_steps_behind_the_end(self):
        elder = ("a", "a")
        for step in (KEEP, ("turn", "b"), LEAVE, CROSS, ("skip", 1)):
            self.not_made(elder, (KEEP, KEEP, step))
        self.made(elder, (KEEP, KEEP, AGAIN), ("a", "a", "a"), TWICE)
        self.made(elder, (KEEP, KEEP, ("add", "b")), ("a", "a", "b"), ADD)

    def test_a_step_that_can_not_be_made_between_others(self):
        self.not_made(("a", "b"), (KEEP, ("turn", "b")))
        self.not_made(("a", "b", "b"), (KEEP, CROSS))
        self.not_made(("a", "b"), (KEEP, CROSS, LEAVE))
        self.not_made(("a", "b"), (AGAIN, KEEP, KEEP))
        self.not_made(("a", "b"), (LEAVE, AGAIN, KEEP))
        self.not_made(("a", "b", "c"), (KEEP, ("skip", 1), KEEP))

    def test_forty_words(self):
        elder = tuple("ab"[place % 2] for place in range(40))
        self.made(elder, (KEEP,) * 40, elder, 0)
        self.made(elder, (LEAVE,) + (KEEP,) * 39 + (AGAIN,), elder[1:] + ("b",), LOSE + TWICE)
        self.made((), (("add", "x"),) * 40, ("x",) * 40, 40 * ADD)
        self.made(("a",) * 40, (LEAVE,) * 40 + (("add", "x"),) * 40, ("x",) * 40, 40 * LOSE + 40 * ADD)
        self.made(elder[:39], (KEEP,) * 39 + (AGAIN,), elder[:39] + ("a",), TWICE)

    def test_forty_one_words(self):
        elder = tuple("ab"[place % 2] for place in range(40))
        self.not_made(elder, (KEEP,) * 40 + (AGAIN,))
        self.not_made(elder, (("add", "x"),) + (KEEP,) * 40)
        self.not_made((), (("add", "x"),) * 41)
        self.not_made((), (("add", "x"),) + (AGAIN,) * 79)
        self.not_made(elder[:39], (CROSS,) + (KEEP,) * 37 + (AGAIN, AGAIN))

    def test_twice_behind_other_slips(self):
        self.made(("a",), (("turn", "b"), AGAIN), ("b", "b"), LIKE + TWICE)
        self.made(("a",), (KEEP, ("add", "cc"), AGAIN), ("a", "cc", "cc"), ADD + TWICE)
        self.made(("a", "b"), (CROSS, AGAIN), ("b", "a", "a"), SWAP + TWICE)
        self.made(("a", "b"), (KEEP, LEAVE, AGAIN), ("a", "a"), LOSE + TWICE)
        self.made(("a", "b", "a"), (KEEP, ("skip", 2), AGAIN), ("a", "a"), SKIP + TWICE)
        self.made(("a",), (KEEP, AGAIN, AGAIN), ("a", "a", "a"), 2 * TWICE)

    def test_twice_without_a_written_word(self):
        self.not_made(("a",), (AGAIN, KEEP))
        self.not_made(("a",), (LEAVE, AGAIN))
        self.not_made(("a", "a"), (LEAVE, ("skip", 1), AGAIN))

    def test_skip_behind_a_word_that_was_not_written(self):
        elder = ("a", "b", "a", "c")
        self.made(elder, (LEAVE, ("skip", 2), KEEP), ("c",), LOSE + SKIP)
        self.made(elder, (("turn", "x"), ("skip", 2), KEEP), ("x", "c"), LIKE + SKIP)
        self.made(("a", "a", "a"), (LEAVE, ("skip", 1), ("skip", 1)), (), LOSE + 2 * SKIP)

    def test_skip_follows_the_elder_and_not_the_copy(self):
        self.not_made(("a", "b"), (("turn", "b"), ("skip", 1)))
        self.not_made(("a", "b"), (KEEP, ("add", "b"), ("skip", 1)))
        self.made(("a", "b", "a"), (CROSS, LEAVE), ("b", "a"), SWAP + LOSE)
        self.not_made(("a", "b", "a"), (CROSS, ("skip", 1)))
        self.made(("a", "b", "b"), (CROSS, ("skip", 1)), ("b", "a"), SWAP + SKIP)

    def test_swap_does_not_act_on_what_was_made(self):
        self.not_made(("a", "b"), (KEEP, CROSS))
        self.not_made(("a",), (("add", "b"), CROSS))

    def test_great_prices(self):
        great = (10 ** 30,) * 7
        self.told(slips_price(("a",) * 40, (LEAVE,) * 40 + (("add", "x"),) * 40, great), 80 * 10 ** 30)
        self.told(slips_price(("a",), (LEAVE,), (0,) * 7), 0)


# [2.1] told once more, in another way: by what is left of the elder, so that
# places are not counted and can not be counted wrong in the same way.
def copies_told(ahead, left, copy, price, steps):
    """The copy and the price that a row of steps makes, or None."""
    if not steps:
        return None if left else (copy, price)
    step, rest = steps[0], steps[1:]
    like, turn, lose, add, twice, swap, skip = PRICES
    if step[0] == "add":
        return copies_told(ahead, left, copy + (step[1],), price + add, rest)
    if step[0] == "twice":
        return copies_told(ahead, left, copy + copy[-1:], price + twice, rest) if copy else None
    if not left:
        return None
    word, behind = left[0], left[1:]
    if step[0] == "keep":
        return copies_told(ahead + (word,), behind, copy + (word,), price, rest)
    if step[0] == "lose":
        return copies_told(ahead + (word,), behind, copy, price + lose, rest)
    if step[0] == "turn":
        if word == step[1]:
            return None
        near = len(word) == len(step[1]) and sum(map(str.__ne__, word, step[1])) == 1
        cost = like if near else turn
        return copies_told(ahead + (word,), behind, copy + (step[1],), price + cost, rest)
    if step[0] == "swap":
        if not behind or behind[0] == word:
            return None
        return copies_told(ahead + left[:2], left[2:], copy + (behind[0], word), price + swap, rest)
    gone = left[:step[1]]
    if not ahead or len(gone) < step[1] or gone[-1] != ahead[-1]:
        return None
    return copies_told(ahead + gone, left[step[1]:], copy, price + skip, rest)


class EveryShortRowOfSteps(VellumCase):
    kinds = (KEEP, ("turn", "a"), ("turn", "bb"), LEAVE, ("add", "a"), AGAIN, CROSS, ("skip", 1), ("skip", 2))

    def test_against_the_other_telling(self):
        elders = [row for many in range(4) for row in itertools.product(("a", "c", "bb"), repeat=many)]
        made = refused = 0
        for elder in elders:
            for many in range(5):
                for steps in itertools.product(self.kinds, repeat=many):
                    awaited = copies_told((), elder, (), 0, steps)
                    found = self.found(elder, steps)
                    if found != awaited:
                        self.fail((elder, steps, found, awaited))
                    made += awaited is not None
                    refused += awaited is None
        self.assertGreater(made, 1000)
        self.assertGreater(refused, 1000)

    def found(self, elder, steps):
        try:
            copy = copy_made(elder, steps)
        except VellumError as error:
            self.assertIs(type(error), NoSlips)
            self.refused(NoSlips, slips_price, elder, steps, PRICES)
            return None
        return (copy, slips_price(elder, steps, PRICES))


if __name__ == "__main__":
    unittest.main()
