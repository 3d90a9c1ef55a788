"""Papers looked at: whether all of their rows are right (16, 18)."""

from facework.forms import headed, is_open
from facework.kinds import from_each, instance, put, taken_apart, variables
from facework.papers import laid_out, plain_schemes, with_names
from facework.reading import all_are, all_fit, has_length, is_list, kinds_within
from facework.words import ARROW, is_great

MOST_NEAR = 8


def open_kinds_within(thing):
    return [] if is_open(thing) else kinds_within(thing)


def is_open_kind(thing):
    return all_fit(thing, open_kinds_within)


def are_rows(paper, count):
    if not isinstance(paper, list) or len(paper) != count:
        return False
    # Rows near one another are often of one kind, which may be large: it is looked at once.
    near = []
    for row in paper:
        if not has_length(row, 2, 2):
            return False
        if row[0] not in near:
            if not is_open_kind(row[0]):
                return False
            near = near[-MOST_NEAR:] + [row[0]]
    return True


def are_unlike_variables(given):
    return isinstance(given, tuple) and all_are(given, is_open) and len(set(given)) == len(given)


def are_kinds(given, count):
    return is_list(given, count, count, is_open_kind)


def stand_in(given, names):
    # Whether one of these stands in the names, but among a scheme's own.
    if len(given) == 0:
        return False
    for name in names:
        scheme = names[name]
        if any([variable in given and variable not in scheme[0] for variable in variables(scheme[1])]):
            return True
    return False


def is_function(kind):
    return has_length(kind, 3, 3) and kind[0] == ARROW


class Place:

    def __init__(self, sorts, names, phrase, row, inner_kinds):
        self.sorts = sorts
        self.names = names
        self.phrase = phrase
        self.kind = row[0]
        self.given = row[1]
        self.inner_kinds = inner_kinds


# The defs called look_.. tell the names that are there for each of a phrase's own phrases, or None
# where its row is not right.


def same_names(at, right):
    return [at.names for kind in at.inner_kinds] if right else None


def look_number(at):
    return same_names(at, at.kind == "num")


def look_name(at):
    if at.phrase not in at.names:
        return None
    scheme = at.names[at.phrase]
    if not has_length(at.given, len(scheme[0]), len(scheme[0])):
        return None
    by = dict(zip(scheme[0], at.given))
    # What is put for a variable that stands in the kind is a kind where the whole is the row's.
    spare = [by[variable] for variable in by if variable not in variables(scheme[1])]
    return same_names(at, all_are(spare, is_open_kind) and put(scheme[1], by) == at.kind)


def look_scheme(at, scheme):
    return same_names(at, instance(scheme[1], from_each(at.inner_kinds, at.kind)) is not None)


def look_tag(at):
    return look_scheme(at, at.sorts.tag(headed(at.phrase)[0]))


def look_make(at):
    return look_scheme(at, at.sorts.record(at.phrase[1]))


def look_pick(at):
    return look_scheme(at, at.sorts.field(at.phrase[1]))


def look_fun(at):
    if not is_function(at.kind) or at.kind[2] != at.inner_kinds[0]:
        return None
    return [with_names(at.names, [at.phrase[1]], plain_schemes([at.kind[1]]))]


def look_call(at):
    return same_names(at, at.inner_kinds[0] == (ARROW, at.inner_kinds[1], at.kind))


def look_let(at):
    if not are_unlike_variables(at.given) or stand_in(at.given, at.names) or at.kind != at.inner_kinds[1]:
        return None
    return [at.names, with_names(at.names, [at.phrase[1]], [(at.given, at.inner_kinds[0])])]


def is_ring_given(given, count):
    return has_length(given, 2, 2) and are_unlike_variables(given[0]) and are_kinds(given[1], count)


def look_ring(at):
    functions = at.phrase[1]
    if not is_ring_given(at.given, len(functions)) or stand_in(at.given[0], at.names):
        return None
    own = at.given[1]
    if not all_are(own, is_function) or [kind[2] for kind in own] + [at.kind] != at.inner_kinds:
        return None
    words = [function[0] for function in functions]
    within = with_names(at.names, words, plain_schemes(own))
    told = []
    for function, kind in zip(functions, own):
        told.append(with_names(within, [function[1]], plain_schemes([kind[1]])))
    return told + [with_names(at.names, words, [(at.given[0], kind) for kind in own])]


def names_of_arm(at, arm):
    kinds = taken_apart(at.sorts.tag(arm[0][0])[1], len(arm[0]) - 1)
    by = instance(kinds[-1], at.inner_kinds[0])
    if by is None:
        return None
    return with_names(at.names, arm[0][1:], plain_schemes([put(kind, by) for kind in kinds[:-1]]))


def look_case(at):
    told = [at.names]
    for count, arm in enumerate(at.phrase[2:], start=1):
        names = names_of_arm(at, arm)
        if names is None or at.inner_kinds[count] != at.kind:
            return None
        told.append(names)
    return told


def look_numbers(at):
    return same_names(at, at.kind == "num" and at.inner_kinds == ["num", "num"])


def look_if(at):
    return same_names(at, at.inner_kinds == ["num", at.kind, at.kind])


LOOKS = {
    "fun": look_fun,
    "call": look_call,
    "let": look_let,
    "ring": look_ring,
    "case": look_case,
    "make": look_make,
    "pick": look_pick,
    "plus": look_numbers,
    "minus": look_numbers,
    "times": look_numbers,
    "less": look_numbers,
    "if": look_if,
}


def look_word(at):
    if isinstance(at.phrase, str) and not is_great(at.phrase):
        return look_name(at)
    if at.given != ():
        return None
    return look_tag(at) if isinstance(at.phrase, str) else look_number(at)


def look_at_place(at):
    if not isinstance(at.phrase, tuple):
        return look_word(at)
    if at.given != () and at.phrase[0] not in ("let", "ring"):
        return None
    return LOOKS[at.phrase[0]](at) if at.phrase[0] in LOOKS else look_tag(at)


def takes(sorts, names, phrase, paper):
    laid = laid_out(phrase)
    if not are_rows(paper, len(laid)):
        return False
    names_at = {0: names}
    for place, row in enumerate(laid):
        inner_kinds = [paper[inner][0] for inner in row[1]]
        told = look_at_place(Place(sorts, names_at[place], row[0], paper[place], inner_kinds))
        if told is None:
            return False
        names_at.update(dict(zip(row[1], told)))
    return True
