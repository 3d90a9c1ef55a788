"""Phrases worked out to values (23, 24)."""

from facework.errors import Stuck
from facework.forms import field_places, headed
from facework.papers import with_names
from facework.runs import block_of, number_of, reckoned, taken_off
from facework.words import is_great, is_path

# A value is a whole number, a block, which is a tuple of a tag's or a record's name and its values,
# or a Function. Names are a dict from small names to values; in what a maker made it also tells of
# each giver which part it is.


class Function:

    def __init__(self, word, phrase, names):
        self.word = word
        self.phrase = phrase
        self.names = names


class Worker:

    def __init__(self, program, calls):
        self.calls = calls
        # The values that phrases came to and that nobody took yet; what is to be done, the next
        # on top: tuples of a def, a phrase and the names there.
        self.pile = []
        self.steps = []
        # Of each field its record and its place in it; of each part the values of its vals.
        self.record_places = field_places(program)
        self.part_vals = {}

    def then(self, steps):
        self.steps.extend(list(reversed(steps)))


def steps_of(phrases, names):
    return [(work_on, phrase, names) for phrase in phrases]


# The defs called end_.. do what a phrase does when those of its phrases that come first have their
# values, which lie on the pile.


def end_fun(worker, phrase, names):
    worker.pile.append(Function(phrase[1], phrase[2], names))


def come_back(worker, phrase, names):
    worker.calls.come_back()


def begin_call(worker, function, argument):
    if not isinstance(function, Function):
        raise Stuck("a call of no function")
    worker.calls.begin()
    names = with_names(function.names, [function.word], [argument])
    worker.then([(work_on, function.phrase, names), (come_back, function.phrase, names)])


def end_call(worker, phrase, names):
    values = taken_off(worker.pile, 2)
    begin_call(worker, values[0], values[1])


def end_let(worker, phrase, names):
    worker.then(steps_of(phrase[3:], with_names(names, [phrase[1]], taken_off(worker.pile, 1))))


def end_ring(worker, phrase, names):
    # The functions know one another by the names that they are put into.
    own = dict(names)
    for function in phrase[1]:
        own[function[0]] = Function(function[1], function[2], own)
    worker.then(steps_of(phrase[2:], own))


def end_case(worker, phrase, names):
    block = block_of(worker.pile.pop())
    for arm in phrase[2:]:
        # A value that a tie tells may have more or fewer values than its tag takes.
        if arm[0][0] == block[0] and len(arm[0]) == len(block):
            worker.then(steps_of(arm[1:], with_names(names, arm[0][1:], block[1:])))
            return
    raise Stuck("a block without an arm")


def end_make(worker, phrase, names):
    worker.pile.append((phrase[1],) + taken_off(worker.pile, len(phrase) - 2))


def end_pick(worker, phrase, names):
    block = block_of(worker.pile.pop())
    field = worker.record_places[phrase[1]]
    if block[0] != field[0] or len(block) <= field[1] + 1:
        raise Stuck("a field of another record")
    worker.pile.append(block[field[1] + 1])


def end_numbers(worker, phrase, names):
    values = taken_off(worker.pile, 2)
    worker.pile.append(reckoned(phrase[0], values[0], values[1]))


def end_if(worker, phrase, names):
    chosen = phrase[2:3] if number_of(worker.pile.pop()) != 0 else phrase[3:]
    worker.then(steps_of(chosen, names))


def end_tag(worker, phrase, names):
    worker.pile.append(phrase[:1] + taken_off(worker.pile, len(phrase) - 1))


# Of each form from where and to where those of its phrases stand that come first, and what is done behind them.
FORMS = {
    "fun": (2, 2, end_fun),
    "call": (1, 3, end_call),
    "let": (2, 3, end_let),
    "ring": (2, 2, end_ring),
    "case": (1, 2, end_case),
    "make": (2, 6, end_make),
    "pick": (2, 3, end_pick),
    "plus": (1, 3, end_numbers),
    "minus": (1, 3, end_numbers),
    "times": (1, 3, end_numbers),
    "less": (1, 3, end_numbers),
    "if": (1, 2, end_if),
}
TAG_FORM = (1, 5, end_tag)


def value_of_path(worker, path, names):
    sides = path.split(".")
    vals = worker.part_vals[names.get(sides[0], sides[0])]
    if sides[1] not in vals:
        raise Stuck("a val that the part has not")
    return vals[sides[1]]


def work_on_word(worker, word, names):
    if not isinstance(word, str):
        worker.pile.append(word)
    elif is_path(word):
        worker.pile.append(value_of_path(worker, word, names))
    else:
        worker.pile.append(names[word])


def work_on(worker, phrase, names):
    if not isinstance(phrase, tuple) and not is_great(phrase):
        work_on_word(worker, phrase, names)
        return
    thing = headed(phrase)
    form = FORMS.get(thing[0], TAG_FORM)
    worker.then(steps_of(thing[form[0]:form[1]], names) + [(form[2], thing, names)])


def go_on(worker):
    # A pile of steps, not a recursion: phrases may be deep, and are so within each call.
    while len(worker.steps) > 0:
        step = worker.steps.pop()
        step[0](worker, step[1], step[2])
    return worker.pile.pop()


def worked_out(worker, phrase, names):
    worker.then(steps_of((phrase,), names))
    return go_on(worker)


def called(worker, function, argument):
    begin_call(worker, function, argument)
    return go_on(worker)
