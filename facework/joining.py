"""Pairs of kinds joined by what is put for their variables (13)."""

from facework.forms import headed, is_open
from facework.kinds import put, same_head, variables


class Joins:

    def __init__(self):
        # What is put for variables: kinds, perhaps other variables, in which more may be put.
        self.bound = {}
        # Variables for which nothing is put.
        self.fixed = {}

    def is_loose(self, kind):
        return is_open(kind) and kind not in self.fixed

    def end_of(self, kind):
        # The last one of the variables that were made the same as this one; else the kind itself.
        end = kind
        while self.is_loose(end) and self.is_loose(self.bound.get(end)):
            end = self.bound[end]
        if end != kind:
            # A shorter way for the next time.
            self.bound[kind] = end
        return end

    def bind(self, variable, kind):
        # No variable may be come to from itself, so joining always comes to an end.
        if variable in self.inner_first([kind]):
            return None
        # What was put for it is joined with the kind instead; so two variables get one end, and what
        # was put for them is joined once, however often they meet.
        was = self.bound.get(variable)
        self.bound[variable] = kind
        return [] if was is None else [(kind, was)]

    def join_ends(self, one, other):
        # Told are the pairs that are to be joined yet, None where the two can't be made the same.
        if self.is_loose(one):
            return [] if one == other else self.bind(one, other)
        if self.is_loose(other):
            return self.bind(other, one)
        ones = headed(one)
        others = headed(other)
        return list(zip(ones[1:], others[1:])) if same_head(ones, others) else None

    def join_pair(self, one, other):
        waiting = [(one, other)]
        while len(waiting) > 0:
            pair = waiting.pop()
            more = self.join_ends(self.end_of(pair[0]), self.end_of(pair[1]))
            if more is None:
                return False
            waiting.extend(more)
        return True

    def loose_within(self, kind):
        return [variable for variable in variables(kind) if self.is_loose(variable)]

    def inner_first(self, kinds):
        # All variables come to from these kinds, each behind those in what is put for it, and else
        # from the left.
        told = []
        done = {}
        waiting = []
        for kind in reversed(kinds):
            waiting.extend(list(reversed(self.loose_within(kind))))
        while len(waiting) > 0:
            variable = waiting[-1]
            if variable not in done:
                done[variable] = False
                waiting.extend(list(reversed(self.loose_within(self.bound.get(variable, "num")))))
                continue
            waiting.pop()
            if not done[variable]:
                done[variable] = True
                told.append(variable)
        return told

    def whole(self, order, by):
        # What is put for all variables in the end, given an order of inner_first, and by what
        # names the variables go for which nothing is put.
        told = dict(by)
        for variable in order:
            if variable in self.bound:
                told[variable] = put(self.bound[variable], told)
        return told


def joined(pairs):
    joins = Joins()
    for pair in pairs:
        if not joins.join_pair(pair[0], pair[1]):
            return None
    return joins.whole(joins.inner_first(list(joins.bound)), {})
