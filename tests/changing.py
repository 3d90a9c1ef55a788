"""Papers and programs changed at one place, for the program to tell apart."""

from facework.errors import FaceError
from facework.reading import read
from facework.scopes import look_over
from facework.showing import shown_program
from helping import thing_with, told_of


def other_kinds(choice, kind):
    """Kinds that are not this one, near it and far from it."""
    told = ["num", "bit", "?0", "?1", "?new", ("->", kind, kind), ("list", kind), ("list", "?0"), ("->", "num", "num")]
    if isinstance(kind, tuple):
        told += list(kind[1:])
        told.append(kind[:1] + tuple(reversed(kind[1:])))
        for place in range(1, len(kind)):
            for inner in other_kinds(choice, kind[place])[:5]:
                told.append(kind[:place] + (inner,) + kind[place + 1:])
    return [one for one in told if one != kind]


def other_givens(choice, phrase, kind, given):
    told = [(), ("num",), ("?0",), ("?9",), (kind, kind), ((), ()), ((), (kind,)), ((), (("->", "num", "num"),))]
    told += [None, 0, "num", "?0", [], list(given), given + ("?8",), given[:-1], given[1:], given + given, (given,), (5,)]
    if len(given) == 2:
        told.append((given[1], given[0]))
    if isinstance(phrase, tuple) and phrase[0] == "ring":
        own, kinds = given
        told += [(own[:-1], kinds), (own + own, kinds), (own + ("?8",), kinds), (own, kinds[:-1]), (own, kinds + kinds[:1])]
        told += [(own, tuple(reversed(kinds))), (own, list(kinds)), (list(own), kinds), (own, kinds, ()), (own,), kinds]
        told += [(own + ("x",), kinds), (own, ("num",) + kinds[1:]), (own, ("?0",) + kinds[1:]), (None, kinds), (own, None)]
    elif given:
        told.append(given[:-1] + (choice.choice(("num", "?0", "?8", "bit", 5, None, ("list",), ("->", "num"))),))
    return [one for one in told if one != given]


def changed_papers(choice, phrases, paper, most):
    """Papers with one row changed, exchanged, gone or added; at most so many."""
    told = [paper[:-1], paper[1:], paper + [("num", ())], paper + paper[-1:], []]
    for place, (kind, given) in enumerate(paper):
        rows = [(one, given) for one in other_kinds(choice, kind)]
        rows += [(kind, one) for one in other_givens(choice, phrases[place], kind, given)]
        told += [paper[:place] + [row] + paper[place + 1:] for row in rows]
        other = choice.randrange(len(paper))
        turned = list(paper)
        turned[place], turned[other] = turned[other], turned[place]
        told.append(turned)
    return told if len(told) <= most else choice.sample(told, most)


def places(thing, path):
    """Where the words and numbers of a thing are, and the things that hold others."""
    told = [path]
    if isinstance(thing, tuple):
        for count, inner in enumerate(thing):
            told += places(inner, path + (count,))
    return told


def at(thing, path):
    for count in path:
        thing = thing[count]
    return thing


def sort_of(thing):
    if not isinstance(thing, str):
        return "number" if isinstance(thing, int) else "brackets"
    if thing.startswith("?") or thing == "->":
        return thing[0]
    return "path" if "." in thing else "great" if thing[0].isupper() else "small"


def changed_program(choice, program):
    """The program with one thing in the place of another of its sort, or one thing taken out or put in again."""
    path = choice.choice(places(program, ())[1:])
    other = choice.choice(places(program, ())[1:])
    one, two = at(program, path), at(program, other)
    if sort_of(one) == sort_of(two) and choice.random() < 0.8:
        return thing_with(program, path, two)
    holder = at(program, path[:-1])
    if choice.random() < 0.5:
        made = holder[:path[-1]] + holder[path[-1] + 1:]
    else:
        made = holder[:path[-1]] + (one,) + holder[path[-1]:]
    return thing_with(program, path[:-1], made)


def is_formed(program):
    """Whether the program is of the form of one: shown as a text, it is read as it is."""
    try:
        return read(shown_program(program)) == program
    except FaceError:
        return False


def changed_programs(choice, programs, count):
    """Programs that are let by when they are looked over, each changed at some places."""
    while count > 0:
        program = kept = choice.choice(list(programs.values()))
        for turn in range(choice.choice((1, 1, 2, 3))):
            made = changed_program(choice, program)
            program = made if is_formed(made) else program
        if program != kept and told_of(look_over, program) is None:
            count -= 1
            yield program
