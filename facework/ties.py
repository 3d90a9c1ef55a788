"""Ties of two bodies of one part (27, 28)."""

from facework.errors import NoName, NoTie, Stuck, TooDeep, TooGreat, TooLong
from facework.forms import given_face, headed, items_of, made_parts, named
from facework.running import work_out_parts
from facework.runs import Calls
from facework.scopes import look_over
from facework.whole import papers_of
from facework.words import ARROW, is_whole
from facework.working import Worker, called

MOST_AHEAD = 400


def place_of(program, part):
    for place, declaration in enumerate(program):
        if declaration[:2] == ("part", part):
            return place
    raise NoName(f"no part with a body of its own: {part}")


def arguments_and_last(kind):
    told = []
    while isinstance(kind, tuple) and kind[0] == ARROW:
        told.append(kind[1])
        kind = kind[2]
    return told + [kind]


def is_plain(declaration):
    return len(declaration[2]) == 0 and all([len(row) == 1 for row in declaration[3:]])


class Tie:

    def __init__(self, program, given, tie):
        self.tie = tie
        items = named(program, "face")[headed(given)[0]][3:]
        self.hides = dict([(item[1], item[2]) for item in items_of(items, "hide")])
        # Of each val the kinds that it takes, and behind them the one that it comes to.
        self.vals = dict([(item[1], arguments_and_last(item[2])) for item in items_of(items, "val")])
        # The kinds that have no more than their tags, which are all their blocks.
        kinds = named(program, "kind")
        self.plain = dict([(name, kinds[name][3:]) for name in kinds if is_plain(kinds[name])])

    def can_be_chosen(self, kind):
        return kind in self.hides or kind in self.plain

    def can_be_looked_at(self):
        if any([self.hides[hide] != 0 for hide in self.hides]):
            return False
        for kinds in self.vals.values():
            if not all([self.can_be_chosen(kind) for kind in kinds[:-1]]):
                return False
            if kinds[-1] != "num" and not self.can_be_chosen(kinds[-1]):
                return False
        return True

    def pairs_for(self, kind):
        # What may be taken in the one body and in the other. A kind that stands behind the face may
        # be called like a hide of it, which is meant.
        if kind in self.hides:
            return [(row[1], row[2]) for row in self.tie if row[0] == kind]
        return [(block, block) for block in self.plain[kind]]

    def choices_of(self, val):
        told = [[]]
        for kind in self.vals[val][:-1]:
            longer = []
            for chosen in told:
                longer.extend([chosen + [pair] for pair in self.pairs_for(kind)])
            told = longer
        return told

    def holds(self, val, one, other):
        kind = self.vals[val][-1]
        if kind in self.hides:
            return (kind, one, other) in self.tie
        return (kind != "num" or is_whole(one)) and one == other


def worker_at(program, place, most):
    # The part's own vals, and all that stands ahead of them, worked out.
    parts = made_parts(program[:place + 1])
    worker = Worker(program, Calls(MOST_AHEAD))
    work_out_parts(worker, parts[:-1])
    worker.calls = Calls(most)
    work_out_parts(worker, parts[-1:])
    return worker


def value_for(worker, path, arguments, most):
    worker.calls = Calls(most)
    value = worker.part_vals[path[0]][path[1]]
    for argument in arguments:
        value = called(worker, value, argument)
    return value


def all_hold(told, programs, place, most):
    workers = [worker_at(program, place, most) for program in programs]
    part = programs[0][place][1]
    for val in told.vals:
        for choice in told.choices_of(val):
            one = value_for(workers[0], (part, val), [pair[0] for pair in choice], most)
            other = value_for(workers[1], (part, val), [pair[1] for pair in choice], most)
            if not told.holds(val, one, other):
                return False
    return True


def tied(program, part, body, tie, most=100):
    place = place_of(program, part)
    declaration = program[place]
    changed = program[:place] + (declaration[:3] + body,) + program[place + 1:]
    look_over(changed)
    told = Tie(program, given_face(declaration), tie)
    if not told.can_be_looked_at():
        raise NoTie("a face that no tie can be looked at for")
    papers_of(changed)
    try:
        return all_hold(told, [program, changed], place, most)
    except (Stuck, TooGreat, TooLong, TooDeep):
        return False
