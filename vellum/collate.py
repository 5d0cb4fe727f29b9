"""Collation: the words of a base and of its copies, laid side by side in columns."""

from vellum.least import first_cheapest
from vellum.slips import step_after

# The steps that write a word without a word of the base being done by them.
GAP_KINDS = ("add", "twice")


# Outside the gaps a step writes no more words than it does of the base, so
# that each of its words has a place there, and what it leaves out stays None.
def laid_words(base, copy, prices):
    places = [None] * len(base)
    gaps = [()] * (len(base) + 1)
    done = 0
    last = None
    for step in first_cheapest(base, copy, prices):
        after = step_after(base, done, last, step)
        words = after[1]
        if step[0] in GAP_KINDS:
            gaps[done] = gaps[done] + words
        else:
            for place, word in enumerate(words):
                places[done + place] = word
        done = after[0]
        last = words[-1] if len(words) > 0 else last
    return (tuple(places), tuple(gaps))


def entry_at(words, place):
    return words[place] if place < len(words) else None


# The gap is handed in as the words that each copy has there.
def gap_columns(gap):
    wide = max([len(words) for words in gap], default=0)
    return [(None,) + tuple([entry_at(words, place) for words in gap]) for place in range(wide)]


def collated(base, copies, prices):
    laid = [laid_words(base, copy, prices) for copy in copies]
    columns = []
    for number in range(len(base) + 1):
        columns.extend(gap_columns([gaps[number] for places, gaps in laid]))
        # Behind the last gap there is no word.
        if number < len(base):
            columns.append((base[number],) + tuple([places[number] for places, gaps in laid]))
    return tuple(columns)


# The base has a word in each column but those of the gaps: so its words, counted
# from left to right, tell the kinds.
def column_kinds(base, copies, prices):
    kinds = []
    done = 0
    for column in collated(base, copies, prices):
        if column[0] is None:
            kinds.append(None)
        else:
            kinds.append(done)
            done = done + 1
    return tuple(kinds)


def row_back(collation, number):
    return tuple([column[number] for column in collation if column[number] is not None])
