"""Faces, programs and runs told once more, as plainly as can be, to hold the program against.

Nothing here is quick, and nothing is taken from the program itself.
"""

import itertools
import sys

from plain import matched, plain_found, plain_takes, standing, with_put


class Refused(Exception):

    def __init__(self, name):
        Exception.__init__(self, name)
        self.name = name


def tuple_of(given):
    return given if isinstance(given, tuple) else (given,)


def givers_in(declaration):
    return {"face": 2, "maker": 2}.get(declaration[0]) and declaration[2] or ()


def given_in(declaration):
    return tuple_of(declaration[3] if declaration[0] == "maker" else declaration[2])


def body_in(declaration):
    return declaration[4:] if declaration[0] == "maker" else declaration[3:]


def called(program, sort, name):
    told, = [declaration for declaration in program if declaration[0] == sort and declaration[1] == name]
    return told


class There:
    """What is there at the declaration of that number."""

    def __init__(self, program, place):
        self.program = program
        self.ahead = program[:place]
        self.own = program[place]

    def face(self, name):
        """R of a part or giver, as a tuple."""
        for giver, given in givers_in(self.own):
            if giver == name:
                return tuple_of(given)
        for declaration in self.ahead:
            if declaration[:2] == ("part", name):
                return given_in(declaration)
            if declaration[:2] == ("apply", name):
                maker = called(self.ahead, "maker", declaration[2])
                by = {giver: part for (giver, given), part in zip(maker[2], declaration[3:])}
                return tuple(by.get(word, word) for word in given_in(maker))
        raise AssertionError(name)

    def has_wanted(self, givers, parts):
        for count, part in enumerate(parts):
            by = {giver: other for (giver, given), other in list(zip(givers, parts))[:count]}
            wanted = tuple_of(givers[count][1])
            if self.face(part) != wanted[:1] + tuple(by.get(word, word) for word in wanted[1:]):
                return False
        return True

    def is_sound(self, given):
        given = tuple_of(given)
        return self.has_wanted(called(self.program, "face", given[0])[2], given[1:])

    def vals(self, given, hide_kind):
        """The vals of a face with the kinds that they have there, in order."""
        face = called(self.program, "face", given[0])
        by = {giver: part for (giver, own), part in zip(face[2], given[1:])}
        hides = [item[1] for item in face[3:] if item[0] == "hide"]

        def turned(kind):
            if isinstance(kind, str):
                return turned((kind,))
            head, inner = kind[0], tuple(turned(one) for one in kind[1:])
            if head in hides:
                return hide_kind(head, inner)
            if "." in head:
                part, hide = head.split(".")
                head = by.get(part, part) + "." + hide
            return (head,) + inner if inner else head

        return {item[1]: turned(item[2]) for item in face[3:] if item[0] == "val"}

    def shown(self, name):
        told = {}
        made = lambda hide, inner: (name + "." + hide,) + inner if inner else name + "." + hide
        for val, kind in self.vals(self.face(name), made).items():
            told[name + "." + val] = (tuple(standing(kind)), kind)
        return told

    def names(self):
        told = {}
        for declaration in self.ahead:
            if declaration[0] in ("part", "apply"):
                told.update(self.shown(declaration[1]))
        for giver, given in givers_in(self.own):
            told.update(self.shown(giver))
        return told

    def is_right(self):
        """All but the kinds of phrases."""
        if self.own[0] == "apply":
            return self.has_wanted(called(self.ahead, "maker", self.own[2])[2], self.own[3:])
        right = all(self.is_sound(given) for giver, given in givers_in(self.own))
        if self.own[0] in ("part", "maker"):
            right = right and self.is_sound(given_in(self.own))
            for item in called(self.program, "face", given_in(self.own)[0])[3:]:
                own = [one for one in body_in(self.own) if one[:2] == item[:2]]
                right = right and len(own) == 1 and (item[0] == "val" or len(own[0][2]) == item[2])
        return right

    def wanted(self):
        hides = {item[1]: item[2:] for item in body_in(self.own) if item[0] == "hide"}
        made = lambda hide, inner: with_put(hides[hide][1], dict(zip(hides[hide][0], inner)))
        return self.vals(given_in(self.own), made)


def paper_or_refused(program, names, phrase):
    paper = plain_found(program, names, phrase)
    if paper is None:
        raise Refused("NoKind")
    return paper


def papers_of_body(program, there):
    names = there.names()
    told = []
    for item in body_in(there.own):
        if item[0] == "val":
            paper = paper_or_refused(program, names, item[2])
            names[item[1]] = (tuple(standing(paper[0][0])), paper[0][0])
            told.append((item[1], paper))
    fits = {}
    for val, kind in there.wanted().items():
        own = dict(told)[val][0][0]
        by = {}
        if not matched(own, kind, by):
            raise Refused("NoFace")
        fits[val] = tuple(by[one] for one in standing(own))
    return tuple((paper, fits.get(val)) for val, paper in told)


def plain_papers(program):
    """The papers of a program, or the name of what refuses it."""
    told = []
    try:
        for place, declaration in enumerate(program):
            there = There(program, place)
            if not there.is_right():
                raise Refused("NoFace")
            if declaration[0] in ("part", "maker"):
                told.append(papers_of_body(program, there))
            elif declaration[0] == "main":
                told.append(paper_or_refused(program, there.names(), ("plus", declaration[1], 0))[1:-1])
            else:
                told.append(())
    except Refused as refusal:
        return refusal.name
    return tuple(told)


def takes_body(program, there, papers):
    names = there.names()
    wanted = there.wanted()
    vals = [item for item in body_in(there.own) if item[0] == "val"]
    if not isinstance(papers, tuple) or len(papers) != len(vals):
        return False
    for item, row in zip(vals, papers):
        if not isinstance(row, tuple) or len(row) != 2 or not is_taken(program, names, item[2], row[0]):
            return False
        kind = row[0][0][0]
        own = standing(kind)
        names[item[1]] = (tuple(own), kind)
        if item[1] not in wanted:
            if row[1] is not None:
                return False
        elif not isinstance(row[1], tuple) or len(row[1]) != len(own):
            return False
        elif with_put(kind, dict(zip(own, row[1]))) != wanted[item[1]]:
            return False
    return True


def is_taken(program, names, phrase, paper):
    if not isinstance(paper, list) or not all(isinstance(row, tuple) and len(row) == 2 for row in paper):
        return False
    return plain_takes(program, names, phrase, paper)


def plain_takes_papers(program, papers):
    if not isinstance(papers, tuple) or len(papers) != len(program):
        return False
    for place, declaration in enumerate(program):
        there = There(program, place)
        if not there.is_right():
            return False
        if declaration[0] in ("part", "maker"):
            right = takes_body(program, there, papers[place])
        elif declaration[0] == "main":
            right = is_taken(program, there.names(), declaration[1], papers[place]) and papers[place][0][0] == "num"
        else:
            right = papers[place] == ()
        if not right:
            return False
    return True


class Number:

    def __init__(self, number):
        if len(str(abs(number))) > 60:
            raise Refused("TooGreat")
        self.number = number


class Block:

    def __init__(self, name, values):
        self.name = name
        self.values = values


class Act:

    def __init__(self, does):
        self.does = does


def must_be(value, sort):
    if not isinstance(value, sort):
        raise Refused("Stuck")
    return value


class Run:

    def __init__(self, program, most):
        self.program = program
        self.most = most
        self.begun = 0
        self.under_way = 0
        self.parts = {}

    def part(self, name, body, givers):
        names = {}
        for item in body:
            if item[0] == "val":
                value = self.value(item[2], dict(names), givers)
                names[item[1]] = value
        self.parts[name] = names

    def call(self, act, value):
        if self.begun >= max(self.most, 0):
            raise Refused("TooLong")
        if self.under_way >= 10:
            raise Refused("TooDeep")
        self.begun += 1
        self.under_way += 1
        told = act.does(value)
        self.under_way -= 1
        return told

    def act(self, x, inner, names, givers):
        return Act(lambda value: self.value(inner, {**names, x: value}, givers))

    def value(self, phrase, names, givers):
        if isinstance(phrase, int):
            told = Number(0)
            told.number = phrase
            return told
        if isinstance(phrase, tuple):
            if phrase[0][0].isupper():
                return Block(phrase[0], [self.value(one, names, givers) for one in phrase[1:]])
            return getattr(self, "of_" + phrase[0])(names, givers, *phrase[1:])
        if "." in phrase:
            part, val = phrase.split(".")
            vals = self.parts[givers.get(part, part)]
            if val not in vals:
                raise Refused("Stuck")
            return vals[val]
        return Block(phrase, []) if phrase[0].isupper() else names[phrase]

    def of_fun(self, names, givers, x, inner):
        return self.act(x, inner, names, givers)

    def of_call(self, names, givers, one, other):
        act = self.value(one, names, givers)
        value = self.value(other, names, givers)
        return self.call(must_be(act, Act), value)

    def of_let(self, names, givers, x, one, other):
        return self.value(other, {**names, x: self.value(one, names, givers)}, givers)

    def of_ring(self, names, givers, functions, last):
        names = dict(names)

        def act(x, inner):
            return Act(lambda value: self.value(inner, {**names, x: value}, givers))

        for f, x, inner in functions:
            names[f] = act(x, inner)
        return self.value(last, names, givers)

    def of_case(self, names, givers, inner, *arms):
        block = must_be(self.value(inner, names, givers), Block)
        for (tag, *words), phrase in arms:
            if tag == block.name:
                return self.value(phrase, {**names, **dict(zip(words, block.values))}, givers)
        raise Refused("Stuck")

    def of_make(self, names, givers, name, *phrases):
        return Block(name, [self.value(one, names, givers) for one in phrases])

    def of_pick(self, names, givers, field, inner):
        block = must_be(self.value(inner, names, givers), Block)
        for declaration in self.program:
            if declaration[:2] == ("record", block.name):
                fields = [row[0] for row in declaration[3:]]
                if field in fields:
                    return block.values[fields.index(field)]
        raise Refused("Stuck")

    def numbers(self, names, givers, one, other):
        one = self.value(one, names, givers)
        other = self.value(other, names, givers)
        return must_be(one, Number).number, must_be(other, Number).number

    def of_plus(self, names, givers, *phrases):
        one, other = self.numbers(names, givers, *phrases)
        return Number(one + other)

    def of_minus(self, names, givers, *phrases):
        one, other = self.numbers(names, givers, *phrases)
        return Number(one - other)

    def of_times(self, names, givers, *phrases):
        one, other = self.numbers(names, givers, *phrases)
        return Number(one * other)

    def of_less(self, names, givers, *phrases):
        one, other = self.numbers(names, givers, *phrases)
        return Number(int(one < other))

    def of_if(self, names, givers, first, second, third):
        number = must_be(self.value(first, names, givers), Number).number
        return self.value(third if number == 0 else second, names, givers)


def plain_run(program, most=300):
    """The number that a run comes to, or the name of what refuses it; and how many calls it began."""
    sys.setrecursionlimit(max(sys.getrecursionlimit(), 20000))
    run = Run(program, most)
    try:
        for declaration in program:
            if declaration[0] == "part":
                run.part(declaration[1], declaration[3:], {})
            elif declaration[0] == "apply":
                maker = called(program, "maker", declaration[2])
                givers = {giver: part for (giver, given), part in zip(maker[2], declaration[3:])}
                run.part(declaration[1], maker[4:], givers)
        told = must_be(run.value(program[-1][1], {}, {}), Number).number
    except Refused as refusal:
        told = refusal.name
    return told, run.begun


def told_value(value):
    """A number or a block as a tie tells it; a function as itself."""
    if isinstance(value, Number):
        return value.number
    if isinstance(value, Block):
        return (value.name,) + tuple(told_value(one) for one in value.values)
    return value


def value_told(told):
    if isinstance(told, tuple):
        return Block(told[0], [value_told(one) for one in told[1:]])
    value = Number(0)
    value.number = told
    return value


def run_of_part(program, part, most):
    """A run that has come to behind the part's vals."""
    run = Run(program, 400)
    for declaration in program:
        if declaration[0] == "apply":
            maker = called(program, "maker", declaration[2])
            run.part(declaration[1], maker[4:], {giver: one for (giver, given), one in zip(maker[2], declaration[3:])})
        elif declaration[0] == "part":
            if declaration[1] == part:
                run.begun, run.most = 0, most
            run.part(declaration[1], declaration[3:], {})
            if declaration[1] == part:
                return run
    raise AssertionError(part)


def plain_choices(program, hides, tie, kind):
    """The pairs that an argument of that kind may be."""
    if kind in hides:
        return [(one, other) for word, one, other in tie if word == kind]
    return [((row[0],), (row[0],)) for row in called(program, "kind", kind)[3:]]


def plain_tied(program, part, body, tie, most=100):
    """Whether two bodies are tied, of what can be looked at."""
    own = called(program, "part", part)
    face = called(program, "face", given_in(own)[0])
    hides = [item[1] for item in face[3:] if item[0] == "hide"]
    changed = tuple(one[:3] + body if one == own else one for one in program)
    try:
        runs = [run_of_part(program, part, most), run_of_part(changed, part, most)]
        for item in face[3:]:
            if item[0] != "val":
                continue
            kinds, kind = [], item[2]
            while isinstance(kind, tuple):
                kinds.append(kind[1])
                kind = kind[2]
            for choice in itertools.product(*[plain_choices(program, hides, tie, one) for one in kinds]):
                told = []
                for side, run in enumerate(runs):
                    run.begun = run.under_way = 0
                    value = run.parts[part][item[1]]
                    for pair in choice:
                        value = run.call(must_be(value, Act), value_told(pair[side]))
                    told.append(told_value(value))
                if not ((kind, *told) in tie if kind in hides else told[0] == told[1]):
                    return False
    except Refused:
        return False
    return True
