"""How a row of steps is written, and read back."""

from vellum.errors import NoSlips
from vellum.words import is_word, number_of

MOST_STEPS = 80
BARE_KINDS = ("lose", "twice", "swap")
WORD_KINDS = ("turn", "add")


# A stretch of no keeps is not written.
def keeps_written(many):
    return [str(many)] if many > 0 else []


def step_written(step):
    return " ".join([str(part) for part in step])


def slips_written(steps):
    items = []
    kept = 0
    for step in steps:
        if step == ("keep",):
            kept = kept + 1
        else:
            items.extend(keeps_written(kept))
            items.append(step_written(step))
            kept = 0
    items.extend(keeps_written(kept))
    return ", ".join(items)


# Nought is a number, but neither keeps nor skips are counted by it.
def count_read(text):
    number = number_of(text, MOST_STEPS)
    return None if number == 0 else number


# The step that an item of two parts writes, or None.
def pair_read(kind, said):
    if kind in WORD_KINDS and is_word(said):
        return (kind, said)
    many = count_read(said)
    if kind == "skip" and many is not None:
        return (kind, many)
    return None


def item_read(item):
    if item in BARE_KINDS:
        return [(item,)]
    kept = count_read(item)
    if kept is not None:
        return [("keep",)] * kept
    parts = item.split(" ")
    step = pair_read(parts[0], parts[1]) if len(parts) == 2 else None
    if step is None:
        raise NoSlips("an item that writes no steps")
    return [step]


def slips_read(text):
    # Splitting the empty text gives one empty item, not none.
    if text == "":
        return ()
    steps = []
    for item in text.split(", "):
        steps.extend(item_read(item))
    if len(steps) > MOST_STEPS:
        raise NoSlips("more steps than a row of steps has")
    return tuple(steps)
