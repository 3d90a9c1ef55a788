"""Kinds: their variables, kinds put in the place of these, and instances (13)."""

from facework.forms import formed, headed, is_open
from facework.words import ARROW


def outer_first(kind):
    # A kind and all kinds within it, from the left, each ahead of those within it.
    waiting = [kind]
    parts = []
    while len(waiting) > 0:
        part = waiting.pop()
        parts.append(part)
        if isinstance(part, tuple):
            waiting.extend(list(reversed(part[1:])))
    return parts


def variables(kind):
    standing = {}
    for part in outer_first(kind):
        if is_open(part):
            standing[part] = True
    return list(standing)


def remade(kind, make):
    # The kind made anew from within: make tells what comes of a head and of its inner kinds. From
    # the right, so that the kinds within a part are done, the first on top, when it is come to.
    done = []
    for part in reversed(outer_first(kind)):
        words = headed(part)
        inner = [done.pop() for place in range(1, len(words))]
        done.append(make(words[0], inner))
    return done[0]


def put(kind, by):
    if len(by) == 0:
        return kind
    return remade(kind, lambda head, inner: by.get(head, head) if is_open(head) else formed(head, inner))


def same_head(one, other):
    return len(one) == len(other) and one[0] == other[0]


def instance(wide, kind):
    by = {}
    waiting = [(wide, kind)]
    while len(waiting) > 0:
        pair = waiting.pop()
        if is_open(pair[0]):
            if by.setdefault(pair[0], pair[1]) != pair[1]:
                return None
        else:
            one = headed(pair[0])
            other = headed(pair[1])
            if not same_head(one, other):
                return None
            waiting.extend(list(zip(one[1:], other[1:])))
    return by


def from_each(froms, kind):
    # The kind of functions that take one after another: (-> K (-> .. kind)).
    for one in reversed(froms):
        kind = (ARROW, one, kind)
    return kind


def taken_apart(kind, count):
    # The first kinds that such functions take, as many as count, and behind these what is left.
    told = []
    for place in range(count):
        told.append(kind[1])
        kind = kind[2]
    return told + [kind]
