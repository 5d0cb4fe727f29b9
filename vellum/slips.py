"""The steps by which a copy is made of an elder, and what they cost."""

from vellum.errors import NoSlips
from vellum.words import MOST_WORDS, looks_alike

# Where the price of each step stands among the seven; a keep costs nothing,
# and a turn between words that look alike has a price of its own.
LIKE = 0
PRICE_PLACES = {"turn": 1, "lose": 2, "add": 3, "twice": 4, "swap": 5, "skip": 6}


# The eye is led by the elder's words alone: whether word done - 1 was written
# is not asked.
def skip_fits(elder, done, many):
    if done < 1 or done + many > len(elder):
        return False
    return elder[done + many - 1] == elder[done - 1]


def step_fits(elder, done, last, step):
    kind = step[0]
    if kind == "add":
        return True
    if kind == "twice":
        return last is not None
    if kind == "swap":
        return done + 1 < len(elder) and elder[done] != elder[done + 1]
    if kind == "skip":
        return skip_fits(elder, done, step[1])
    if kind == "turn":
        return done < len(elder) and elder[done] != step[1]
    return done < len(elder)


def words_done(step):
    kind = step[0]
    if kind == "add" or kind == "twice":
        return 0
    if kind == "swap":
        return 2
    if kind == "skip":
        return step[1]
    return 1


def words_written(elder, done, last, step):
    kind = step[0]
    if kind == "lose" or kind == "skip":
        return ()
    if kind == "turn" or kind == "add":
        return (step[1],)
    if kind == "twice":
        return (last,)
    if kind == "swap":
        return (elder[done + 1], elder[done])
    return (elder[done],)


def step_after(elder, done, last, step):
    if not step_fits(elder, done, last, step):
        raise NoSlips("a step that can not be made there")
    return (done + words_done(step), words_written(elder, done, last, step))


# The copy, and how many words of the elder were done ahead of each step. The
# copy and the price both come of this walk, so that both refuse the same.
def steps_walked(elder, steps):
    copy = []
    places = []
    done = 0
    for step in steps:
        last = copy[-1] if len(copy) > 0 else None
        after = step_after(elder, done, last, step)
        places.append(done)
        done = after[0]
        copy.extend(after[1])
    if done < len(elder):
        raise NoSlips("words of the elder are left")
    if len(copy) > MOST_WORDS:
        raise NoSlips("more words than a row has")
    return (tuple(copy), tuple(places))


def copy_made(elder, steps):
    return steps_walked(elder, steps)[0]


def step_price(elder, done, step, prices):
    kind = step[0]
    if kind == "keep":
        return 0
    if kind == "turn" and looks_alike(elder[done], step[1]):
        return prices[LIKE]
    return prices[PRICE_PLACES[kind]]


def slips_price(elder, steps, prices):
    places = steps_walked(elder, steps)[1]
    return sum([step_price(elder, done, step, prices) for done, step in zip(places, steps)])
