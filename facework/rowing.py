"""Phrases made into rows of a code (26)."""

from facework.forms import field_places, headed
from facework.sorts import Sorts
from facework.words import is_great


class Scope:

    def __init__(self, outer, own, depth):
        # Of vals and paths which global they are, of other names which local; and how many locals
        # the frame has, hidden ones too.
        self.outer = outer
        self.own = own
        self.depth = depth

    def with_locals(self, words):
        own = dict(self.own)
        for place, word in enumerate(words, start=self.depth):
            own[word] = place
        return Scope(self.outer, own, self.depth + len(words))

    def kept_places(self):
        # What a function that is made here keeps: all names that are there.
        return tuple([self.own[word] for word in self.own])

    def in_function(self, word):
        # A frame of such a function: what it keeps from 0 on, and its argument behind.
        own = dict([(kept, place) for place, kept in enumerate(self.own)])
        return Scope(self.outer, own, len(own)).with_locals([word])

    def row_of(self, word):
        return ("local", self.own[word]) if word in self.own else ("global", self.outer[word])


class Coder:

    def __init__(self, program):
        self.sorts = Sorts(program)
        self.record_places = field_places(program)
        self.rows = []
        # How many vals became globals.
        self.stored = 0
        # Functions, whose rows come behind all others: tuples of a mark, a phrase and its scope.
        self.functions = []
        # Rows go to marks, which are numbers, until it is known where these are.
        self.marks = 0
        self.mark_places = {}

    def new_mark(self):
        self.marks = self.marks + 1
        return self.marks

    def new_function(self, phrase, scope):
        mark = self.new_mark()
        self.functions.append((mark, phrase, scope))
        return mark


# Steps are tuples of a def, what it is done with, and the scope there. The defs called code_.. tell
# the steps by which rows are made of a phrase.


def lay_row(coder, row, scope):
    coder.rows.append(row)
    return []


def set_mark(coder, mark, scope):
    coder.mark_places[mark] = len(coder.rows)
    return []


def row_steps(row):
    return [(lay_row, row, None)]


def mark_steps(mark):
    return [(set_mark, mark, None)]


def phrase_steps(phrases, scope):
    return [(code_phrase, phrase, scope) for phrase in phrases]


def code_fun(coder, phrase, scope):
    mark = coder.new_function(phrase[2], scope.in_function(phrase[1]))
    return row_steps(("close", mark, scope.kept_places()))


def code_let(coder, phrase, scope):
    first = phrase_steps(phrase[2:3], scope) + row_steps(("keep",))
    return first + phrase_steps(phrase[3:], scope.with_locals([phrase[1]])) + row_steps(("drop", 1))


def code_ring(coder, phrase, scope):
    inner = scope.with_locals([function[0] for function in phrase[1]])
    marks = [coder.new_function(function[2], inner.in_function(function[1])) for function in phrase[1]]
    row = ("ring", tuple([(mark, inner.kept_places()) for mark in marks]))
    return row_steps(row) + phrase_steps(phrase[2:], inner) + row_steps(("drop", len(marks)))


def code_case(coder, phrase, scope):
    tags = coder.sorts.tags(coder.sorts.kind_of(phrase[2][0][0]))
    marks = dict([(tag, coder.new_mark()) for tag in tags])
    end = coder.new_mark()
    steps = phrase_steps(phrase[1:2], scope) + row_steps(("case", tuple([marks[tag] for tag in tags])))
    for arm in phrase[2:]:
        words = arm[0][1:]
        steps.extend(mark_steps(marks[arm[0][0]]) + phrase_steps(arm[1:], scope.with_locals(words)))
        steps.extend(row_steps(("drop", len(words))) + row_steps(("jump", end)))
    return steps + mark_steps(end)


def code_if(coder, phrase, scope):
    third = coder.new_mark()
    end = coder.new_mark()
    steps = phrase_steps(phrase[1:2], scope) + row_steps(("unless", third))
    steps.extend(phrase_steps(phrase[2:3], scope) + row_steps(("jump", end)))
    return steps + mark_steps(third) + phrase_steps(phrase[3:], scope) + mark_steps(end)


def code_make(coder, phrase, scope):
    # No case asks for the number of a record.
    return phrase_steps(phrase[2:], scope) + row_steps(("block", 0, len(phrase) - 2))


def code_pick(coder, phrase, scope):
    return phrase_steps(phrase[2:], scope) + row_steps(("field", coder.record_places[phrase[1]][1]))


def code_plain(coder, phrase, scope):
    # The row is called like the phrase.
    return phrase_steps(phrase[1:], scope) + row_steps(phrase[:1])


def code_tag(coder, phrase, scope):
    number = coder.sorts.tags(coder.sorts.kind_of(phrase[0])).index(phrase[0])
    return phrase_steps(phrase[1:], scope) + row_steps(("block", number, len(phrase) - 1))


CODES = {
    "fun": code_fun,
    "call": code_plain,
    "let": code_let,
    "ring": code_ring,
    "case": code_case,
    "make": code_make,
    "pick": code_pick,
    "plus": code_plain,
    "minus": code_plain,
    "times": code_plain,
    "less": code_plain,
    "if": code_if,
}


def code_phrase(coder, phrase, scope):
    thing = headed(phrase)
    if is_great(thing[0]):
        return code_tag(coder, thing, scope)
    if isinstance(phrase, tuple):
        return CODES[phrase[0]](coder, phrase, scope)
    return row_steps(scope.row_of(phrase) if isinstance(phrase, str) else ("number", phrase))


def lay_phrase(coder, phrase, scope):
    # A pile of steps, not a recursion: phrases may be deep.
    steps = phrase_steps((phrase,), scope)
    while len(steps) > 0:
        step = steps.pop()
        steps.extend(list(reversed(step[0](coder, step[1], step[2]))))
