"""Things and programs shown as texts that read as them (4, 8)."""

from facework.things import MOST_SIGNS


def shown_pieces(things):
    pieces = []
    waiting = list(reversed(things))
    while len(waiting) > 0:
        thing = waiting.pop()
        if isinstance(thing, tuple):
            pieces.append("(")
            waiting.append(")")
            waiting.extend(list(reversed(thing)))
        else:
            pieces.append(str(thing))
    return pieces


def shown_things(things):
    text = " ".join(shown_pieces(things)).replace("( ", "(").replace(" )", ")")
    if len(text) <= MOST_SIGNS:
        return text
    # What was read from a text without needless blanks must not grow beyond what is read.
    return text.replace(" (", "(").replace(") ", ")")


def shown(thing):
    return shown_things((thing,))


def shown_program(program):
    return shown_things(program)
