"""The words of kinds and phrases looked at, from the left (9 to 11)."""

from facework.errors import NoCount
from facework.forms import headed, is_open
from facework.seen import be_there, count_same, name_once, use
from facework.words import ARROW, is_great, is_path


def kinds_taken(seen, word, hides):
    if is_path(word):
        return seen.count_of_hide(word)
    if word in hides:
        return hides[word]
    return use(word, seen.sort_counts)


def look_at_kind_word(seen, word, count, hides, variables):
    if word == "num" or word == ARROW:
        return
    if not is_open(word):
        count_same(word, kinds_taken(seen, word, hides), count)
    elif variables is not None:
        be_there(word, variables)


def look_at_kind(seen, kind, hides, variables):
    # Without told variables (None) any may stand there, as in a face's vals.
    waiting = [kind]
    while len(waiting) > 0:
        thing = headed(waiting.pop())
        look_at_kind_word(seen, thing[0], len(thing) - 1, hides, variables)
        waiting.extend(list(reversed(thing[1:])))


# The defs from here on look at the words ahead of the first inner phrase and tell the steps that
# come next: tuples of a def, what it looks at, and the names that are there.


def steps_of(phrases, names):
    return [(look_at_phrase, phrase, names) for phrase in phrases]


def look_at_plain(seen, phrase, names):
    return steps_of(phrase[1:], names)


def look_at_fun(seen, phrase, names):
    return steps_of(phrase[2:], names + (phrase[1],))


def look_at_let(seen, phrase, names):
    return steps_of(phrase[2:3], names) + steps_of(phrase[3:], names + (phrase[1],))


def look_at_function(seen, functions, names):
    # The last of these functions; those ahead of it are there for their names.
    function = functions[-1]
    name_once(function[0], [other[0] for other in functions[:-1]])
    return steps_of(function[2:], names + (function[1],))


def look_at_ring(seen, phrase, names):
    functions = phrase[1]
    inner = names + tuple([function[0] for function in functions])
    steps = [(look_at_function, functions[:place + 1], inner) for place in range(len(functions))]
    return steps + steps_of(phrase[2:], inner)


def look_at_arm(seen, arms, names):
    # The last of these arms; those ahead of it are there for their tags.
    row = arms[-1][0]
    tag = row[0]
    name_once(tag, [arm[0][0] for arm in arms[:-1]])
    if use(tag, seen.tag_kinds) != seen.tag_kinds[arms[0][0][0]]:
        raise NoCount(f"not a tag of the kind of the first arm: {tag}")
    count_same(tag, seen.tag_sizes[tag], len(row) - 1)
    for place in range(1, len(row)):
        name_once(row[place], row[1:place])
    return steps_of(arms[-1][1:], names + row[1:])


def look_at_all_arms(seen, arms, names):
    # The arms are of unlike tags of one kind when this is come to, so their number tells.
    count_same("case", seen.kind_sizes[seen.tag_kinds[arms[0][0][0]]], len(arms))
    return []


def look_at_case(seen, phrase, names):
    arms = phrase[2:]
    steps = [(look_at_arm, arms[:place + 1], names) for place in range(len(arms))]
    return steps_of(phrase[1:2], names) + steps + [(look_at_all_arms, arms, names)]


def look_at_make(seen, phrase, names):
    count_same(phrase[1], use(phrase[1], seen.record_sizes), len(phrase) - 2)
    return steps_of(phrase[2:], names)


def look_at_pick(seen, phrase, names):
    be_there(phrase[1], seen.field_names)
    return steps_of(phrase[2:], names)


def look_at_tag(seen, phrase, names):
    count_same(phrase[0], use(phrase[0], seen.tag_sizes), len(phrase) - 1)
    return steps_of(phrase[1:], names)


PHRASE_LOOKS = {
    "fun": look_at_fun,
    "let": look_at_let,
    "ring": look_at_ring,
    "case": look_at_case,
    "make": look_at_make,
    "pick": look_at_pick,
}


def look_at_word(seen, word, names):
    # A number uses nothing.
    if is_path(word):
        seen.uses_val(word)
    elif isinstance(word, str):
        be_there(word, names)


def look_at_phrase(seen, phrase, names):
    thing = headed(phrase)
    if is_great(thing[0]):
        return look_at_tag(seen, thing, names)
    if not isinstance(phrase, tuple):
        look_at_word(seen, phrase, names)
        return []
    if phrase[0] in PHRASE_LOOKS:
        return PHRASE_LOOKS[phrase[0]](seen, phrase, names)
    return look_at_plain(seen, phrase, names)


def look_through(seen, phrase, names):
    # A pile of steps, not a recursion: phrases that are handed in may be deep.
    steps = steps_of((phrase,), names)
    while len(steps) > 0:
        step = steps.pop()
        steps.extend(list(reversed(step[0](seen, step[1], step[2]))))
