"""What several of the tests ask with."""

import unittest

from facework import errors

REFUSALS = (
    "NoText", "Twice", "NoName", "NoCount", "NoKind", "NoFace", "Stuck",
    "TooGreat", "TooLong", "TooDeep", "NoTie", "NoRow", "NoProgram",
)

KEPT = (
    "num fun call let ring case make pick plus minus times less if kind record face"
    " hide val part maker apply main"
).split()

# One thing of each sort, by the name of the sort.
SORTS = {
    "small": "abc",
    "great": "Abc",
    "path": "Abc.abc",
    "variable": "?abc",
    "arrow": "->",
    "number": 7,
    "brackets": (),
    "kept": "fun",
    "kept num": "num",
}


def text_of(thing):
    if isinstance(thing, tuple):
        return "(" + " ".join(text_of(inner) for inner in thing) + ")"
    return str(thing)


def parts_of(text):
    """The things of a text in which any words may stand, such as the variable ?0."""
    levels = [[]]
    for piece in text.replace("(", " ( ").replace(")", " ) ").split():
        if piece == "(":
            levels.append([])
        elif piece == ")":
            inner = tuple(levels.pop())
            levels[-1].append(inner)
        else:
            levels[-1].append(piece)
    return tuple(levels[0])


def part_of(text):
    told, = parts_of(text)
    return told


def thing_with(thing, path, new):
    """The thing, with another one at the place that the path leads to."""
    if not path:
        return new
    head = path[0]
    return thing[:head] + (thing_with(thing[head], path[1:], new),) + thing[head + 1:]


def is_plain(thing):
    """Whether it is made of ints, texts and tuples alone, of these very classes."""
    if type(thing) is tuple:
        return all(is_plain(inner) for inner in thing)
    return type(thing) in (int, str)


def told_of(call, *given):
    """What a call tells: its answer, or the name of what refuses it."""
    try:
        return call(*given)
    except errors.FaceError as refusal:
        return type(refusal).__name__


class Case(unittest.TestCase):

    def refused(self, name, call, *given):
        """The call is refused with the class of that name, and with no other's."""
        with self.assertRaises(errors.FaceError) as caught:
            call(*given)
        error = caught.exception
        self.assertIs(type(error), getattr(errors, name), given)
        self.assertIsInstance(error, ValueError)
        for other in REFUSALS:
            self.assertEqual(isinstance(error, getattr(errors, other)), other == name)
        self.assertTrue(str(error))

    def only_sorts(self, allowed, makes, answers):
        """At one place of a right thing, just the things of the allowed sorts are right."""
        for sort, thing in SORTS.items():
            with self.subTest(sort=sort, made=makes(thing)):
                self.assertIs(answers(makes(thing)), sort in allowed)
