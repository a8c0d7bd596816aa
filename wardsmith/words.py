"""Whole numbers, names, and numbers as they are written."""

LETTERS = "abcdefghijklmnopqrstuvwxyz"
FIGURES = "0123456789"
KEPT_WORDS = ("door", "key", "opens", "rules", "wing")
MOST_LETTERS = 12
MOST_FIGURES = 3


def is_whole(thing):
    return isinstance(thing, int) and not isinstance(thing, bool)


def is_name(thing):
    if not isinstance(thing, str) or thing in KEPT_WORDS:
        return False
    return 1 <= len(thing) <= MOST_LETTERS and has_only(thing, LETTERS)


def has_only(text, signs):
    return all([sign in signs for sign in text])


# int() alone would also take signs, blanks, line ends and the figures of other scripts.
def is_written(text, most):
    if not 1 <= len(text) <= most or not has_only(text, FIGURES):
        return False
    return text == "0" or text[0] != "0"


# None where the text is no number that is written with at most so many figures.
def number_in(text, most):
    return int(text) if is_written(text, most) else None


# None where the thing is no text, or a part of it is no written number.
def numbers_in(thing, mark):
    if not isinstance(thing, str):
        return None
    parts = thing.split(mark)
    if not all([is_written(part, MOST_FIGURES) for part in parts]):
        return None
    return tuple([int(part) for part in parts])
