"""The sorts of words and numbers, asked of any thing (4)."""

SMALL_LETTERS = "abcdefghijklmnopqrstuvwxyz"
GREAT_LETTERS = "ABCDEFGHIJKLMNOPQRSTUVWXYZ"
FIGURES = "0123456789"
ARROW = "->"
MOST_LETTERS = 8
MOST_FIGURES = 30
KEPT = (
    "num", "fun", "call", "let", "ring", "case", "make", "pick",
    "plus", "minus", "times", "less", "if", "kind", "record", "face",
    "hide", "val", "part", "maker", "apply", "main",
)


def all_of(text, signs):
    # What is left when these signs are taken from both ends begins with another sign.
    return text.strip(signs) == ""


def is_small(thing):
    return isinstance(thing, str) and 1 <= len(thing) <= MOST_LETTERS and all_of(thing, SMALL_LETTERS)


def is_name(thing):
    return is_small(thing) and thing not in KEPT


def is_great(thing):
    if not isinstance(thing, str) or not 1 <= len(thing) <= MOST_LETTERS:
        return False
    return thing[0] in GREAT_LETTERS and all_of(thing[1:], SMALL_LETTERS)


def is_path(thing):
    if not isinstance(thing, str):
        return False
    sides = thing.split(".")
    return len(sides) == 2 and is_great(sides[0]) and is_name(sides[1])


def is_variable(thing):
    return isinstance(thing, str) and thing.startswith("?") and is_small(thing[1:])


def is_word(thing):
    return is_small(thing) or is_great(thing) or is_path(thing) or is_variable(thing) or thing == ARROW


def is_whole(thing):
    # A truth is an int to Python, but no whole number (2).
    return isinstance(thing, int) and not isinstance(thing, bool)


def is_number(thing):
    return is_whole(thing) and abs(thing) < 10 ** 30


def is_number_text(text):
    figures = text[1:] if text.startswith("-") else text
    if not 1 <= len(figures) <= MOST_FIGURES or not all_of(figures, FIGURES):
        return False
    return text == "0" or figures[0] != "0"
