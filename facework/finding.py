"""The widest paper of a phrase found (15 to 17)."""

from facework.errors import NoKind
from facework.forms import headed
from facework.joining import Joins
from facework.kinds import from_each, put, taken_apart, variables
from facework.papers import laid_out, plain_schemes, with_names
from facework.words import ARROW, is_great


class Finder:

    def __init__(self, sorts, names, phrase):
        self.sorts = sorts
        self.names = names
        self.joins = Joins()
        self.made = 0
        self.laid = laid_out(phrase)
        self.row_kinds = [self.new() for row in self.laid]
        self.row_givens = [() for row in self.laid]
        # At each row the names of fun, let, ring and arms that are there.
        self.scopes = [{} for row in self.laid]
        # The lets and rings whose last phrase is at a row: they give ahead of it.
        self.givers = {}

    def new(self):
        self.made = self.made + 1
        return "?" + str(self.made)

    def make_same(self, one, other):
        if not self.joins.join_pair(one, other):
            raise NoKind("kinds that can't be the same")

    def loose(self, kinds):
        # In the order of their first standing: nothing is put for them, so none is within another.
        return [variable for variable in self.joins.inner_first(kinds) if variable not in self.joins.bound]

    def given_by(self, place, kinds):
        scope = self.scopes[place]
        standing = dict([(variable, True) for variable in self.loose([scope[name][1] for name in scope])])
        return tuple([variable for variable in self.loose(kinds) if variable not in standing])

    def copied(self, kind, by):
        # Only what holds a variable of by is made anew, the rest stays one with what it was.
        told = dict(by)
        for variable in self.joins.inner_first([kind]):
            if variable in self.joins.bound:
                was = self.joins.bound[variable]
                made = put(was, told)
                if made != was:
                    told[variable] = self.new()
                    self.joins.bound[told[variable]] = made
        return put(kind, told)

    def new_for(self, own):
        return dict([(variable, self.new()) for variable in own])

    def fresh(self, scheme):
        return put(scheme[1], self.new_for(scheme[0]))

    def kinds_of_inner(self, place):
        return [self.row_kinds[inner] for inner in self.laid[place][1]]


def find_number(finder, place, phrase):
    finder.make_same(finder.row_kinds[place], "num")


def find_own_name(finder, place, phrase):
    scheme = finder.scopes[place][phrase]
    by = finder.new_for(scheme[0])
    finder.row_givens[place] = tuple([by[variable] for variable in scheme[0]])
    finder.make_same(finder.row_kinds[place], finder.copied(scheme[1], by))


def find_outer_name(finder, place, phrase):
    if phrase not in finder.names:
        raise NoKind(f"a name without a scheme: {phrase}")
    scheme = finder.names[phrase]
    for variable in variables(scheme[1]):
        if variable not in scheme[0]:
            finder.joins.fixed[variable] = True
    by = finder.new_for(scheme[0])
    finder.row_givens[place] = tuple([by[variable] for variable in scheme[0]])
    finder.make_same(finder.row_kinds[place], put(scheme[1], by))


def find_scheme(finder, place, scheme):
    # What is of a tag's, record's or field's kind: its phrases and itself as the scheme tells.
    wanted = from_each(finder.kinds_of_inner(place), finder.row_kinds[place])
    finder.make_same(finder.fresh(scheme), wanted)


def find_tag(finder, place, phrase):
    find_scheme(finder, place, finder.sorts.tag(headed(phrase)[0]))


def find_make(finder, place, phrase):
    find_scheme(finder, place, finder.sorts.record(phrase[1]))


def find_pick(finder, place, phrase):
    find_scheme(finder, place, finder.sorts.field(phrase[1]))


def find_fun(finder, place, phrase):
    inner = finder.laid[place][1][0]
    taken = finder.new()
    finder.make_same(finder.row_kinds[place], (ARROW, taken, finder.row_kinds[inner]))
    finder.scopes[inner] = with_names(finder.scopes[place], [phrase[1]], plain_schemes([taken]))


def find_call(finder, place, phrase):
    kinds = finder.kinds_of_inner(place)
    finder.make_same(kinds[0], (ARROW, kinds[1], finder.row_kinds[place]))


def find_let(finder, place, phrase):
    inner = finder.laid[place][1]
    finder.make_same(finder.row_kinds[place], finder.row_kinds[inner[1]])
    finder.givers[inner[1]] = place


def give_let(finder, place, phrase):
    inner = finder.laid[place][1]
    kind = finder.row_kinds[inner[0]]
    given = finder.given_by(place, [kind])
    finder.row_givens[place] = given
    finder.scopes[inner[1]] = with_names(finder.scopes[place], [phrase[1]], [(given, kind)])


def find_ring(finder, place, phrase):
    inner = finder.laid[place][1]
    kinds = finder.kinds_of_inner(place)
    finder.make_same(finder.row_kinds[place], kinds[-1])
    taken = [finder.new() for function in phrase[1]]
    own = [(ARROW, one, other) for one, other in zip(taken, kinds)]
    within = with_names(finder.scopes[place], [function[0] for function in phrase[1]], plain_schemes(own))
    for count, function in enumerate(phrase[1]):
        finder.scopes[inner[count]] = with_names(within, [function[1]], plain_schemes([taken[count]]))
    finder.row_givens[place] = ((), tuple(own))
    finder.givers[inner[-1]] = place


def give_ring(finder, place, phrase):
    kinds = finder.row_givens[place][1]
    given = finder.given_by(place, kinds)
    finder.row_givens[place] = (given, kinds)
    words = [function[0] for function in phrase[1]]
    behind = with_names(finder.scopes[place], words, [(given, kind) for kind in kinds])
    finder.scopes[finder.laid[place][1][-1]] = behind


def find_case(finder, place, phrase):
    inner = finder.laid[place][1]
    for count, arm in enumerate(phrase[2:], start=1):
        kinds = taken_apart(finder.fresh(finder.sorts.tag(arm[0][0])), len(arm[0]) - 1)
        finder.make_same(finder.row_kinds[inner[0]], kinds[-1])
        finder.make_same(finder.row_kinds[inner[count]], finder.row_kinds[place])
        finder.scopes[inner[count]] = with_names(finder.scopes[place], arm[0][1:], plain_schemes(kinds[:-1]))


def find_numbers(finder, place, phrase):
    for kind in [finder.row_kinds[place]] + finder.kinds_of_inner(place):
        finder.make_same(kind, "num")


def find_if(finder, place, phrase):
    kinds = finder.kinds_of_inner(place)
    finder.make_same(kinds[0], "num")
    finder.make_same(kinds[1], finder.row_kinds[place])
    finder.make_same(kinds[2], finder.row_kinds[place])


FINDS = {
    "fun": find_fun,
    "call": find_call,
    "let": find_let,
    "ring": find_ring,
    "case": find_case,
    "make": find_make,
    "pick": find_pick,
    "plus": find_numbers,
    "minus": find_numbers,
    "times": find_numbers,
    "less": find_numbers,
    "if": find_if,
}
GIVES = {"let": give_let, "ring": give_ring}


def find_word(finder, place, word):
    if not isinstance(word, str):
        find_number(finder, place, word)
    elif is_great(word):
        find_tag(finder, place, word)
    elif word in finder.scopes[place]:
        find_own_name(finder, place, word)
    else:
        find_outer_name(finder, place, word)


def find_at(finder, place):
    if place in finder.givers:
        outer = finder.givers[place]
        phrase = finder.laid[outer][0]
        GIVES[phrase[0]](finder, outer, phrase)
    phrase = finder.laid[place][0]
    for inner in finder.laid[place][1]:
        finder.scopes[inner] = finder.scopes[place]
    if not isinstance(phrase, tuple):
        find_word(finder, place, phrase)
    elif phrase[0] in FINDS:
        FINDS[phrase[0]](finder, place, phrase)
    else:
        find_tag(finder, place, phrase)


def is_ring(phrase):
    return isinstance(phrase, tuple) and phrase[0] == "ring"


def kinds_of_rows(finder):
    # All kinds of the paper in their order, in each row the kind ahead of what is given.
    told = []
    for place, row in enumerate(finder.laid):
        given = finder.row_givens[place]
        told.append(finder.row_kinds[place])
        told.extend(given[0] + given[1] if is_ring(row[0]) else given)
    return told


def all_put(kinds, by):
    return tuple([put(kind, by) for kind in kinds])


def paper_of(finder):
    order = finder.joins.inner_first(kinds_of_rows(finder))
    loose = [variable for variable in order if variable not in finder.joins.bound]
    named = dict([(variable, "?" + str(count)) for count, variable in enumerate(loose)])
    by = finder.joins.whole(order, named)
    paper = []
    for place, row in enumerate(finder.laid):
        given = finder.row_givens[place]
        told = (all_put(given[0], by), all_put(given[1], by)) if is_ring(row[0]) else all_put(given, by)
        paper.append((put(finder.row_kinds[place], by), told))
    return paper


def found(sorts, names, phrase):
    finder = Finder(sorts, names, phrase)
    for place in range(len(finder.laid)):
        find_at(finder, place)
    return paper_of(finder)
