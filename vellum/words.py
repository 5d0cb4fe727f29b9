"""Words, rows, numbers and prices, and how they are written and read."""

from vellum.errors import NoPrices, NoRow

LETTERS = "abcdefghijklmnopqrstuvwxyz"
FIGURES = "0123456789"
MOST_LETTERS = 12
MOST_WORDS = 40
MOST_PRICE = 1_000_000_000_000_000_000_000_000_000_000
MANY_PRICES = 7


# Python's own questions (isdigit, islower ..) also take figures and letters
# of other scripts, so the signs are listed and looked up.
def has_only(text, signs):
    return all([sign in signs for sign in text])


def is_word(text):
    return 1 <= len(text) <= MOST_LETTERS and has_only(text, LETTERS)


def looks_alike(one, two):
    if len(one) != len(two):
        return False
    unlike = [place for place in range(len(one)) if one[place] != two[place]]
    return len(unlike) == 1


def writes_number(text):
    if text == "" or not has_only(text, FIGURES):
        return False
    return text == "0" or text[0] != "0"


def number_of(text, most):
    # Without needless noughts, more figures are a greater number: so a text
    # that is too long is known without being read, as int takes no very long one.
    if not writes_number(text) or len(text) > len(str(most)):
        return None
    number = int(text)
    return number if number <= most else None


def row_written(row):
    return " ".join(row)


def row_read(text):
    # Splitting the empty text gives one empty word, not none.
    if text == "":
        return ()
    words = text.split(" ")
    if len(words) > MOST_WORDS:
        raise NoRow("more words than a row has")
    if not all([is_word(word) for word in words]):
        raise NoRow("not words with one blank between each two")
    return tuple(words)


def prices_written(prices):
    return " ".join([str(price) for price in prices])


def prices_read(text):
    prices = [number_of(part, MOST_PRICE) for part in text.split(" ")]
    if len(prices) != MANY_PRICES:
        raise NoPrices("not seven numbers")
    if None in prices:
        raise NoPrices("not prices with one blank between each two")
    return tuple(prices)
