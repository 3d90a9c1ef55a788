"""Texts taken apart into their things (4, 8)."""

from facework.errors import NoText
from facework.words import is_number_text, is_word

MOST_SIGNS = 6000
MOST_BRACKETS = 20


def pieces_of(text):
    # Only blanks and line feeds part pieces, so a bare split, which knows more gaps, won't do.
    spaced = text.replace("\n", " ").replace("(", " ( ").replace(")", " ) ")
    return [piece for piece in spaced.split(" ") if piece != ""]


def thing_of(piece):
    if is_number_text(piece):
        return int(piece)
    if is_word(piece):
        return piece
    raise NoText(f"neither a number nor a word: {piece}")


def begin_bracket(levels):
    # The first level is the text's own, and has no bracket.
    if len(levels) > MOST_BRACKETS:
        raise NoText("too many brackets within one another")
    levels.append([])


def end_bracket(levels):
    if len(levels) == 1:
        raise NoText("a bracket ends that was not begun")
    inner = levels.pop()
    levels[-1].append(tuple(inner))


def things_of(text):
    if len(text) > MOST_SIGNS:
        raise NoText("too many signs")
    levels = [[]]
    for piece in pieces_of(text):
        if piece == "(":
            begin_bracket(levels)
        elif piece == ")":
            end_bracket(levels)
        else:
            levels[-1].append(thing_of(piece))
    if len(levels) > 1:
        raise NoText("a bracket is begun that does not end")
    return tuple(levels[0])
