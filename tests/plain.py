"""Finding and looking written down once more, as plainly as can be, to hold the program against.

Nothing here is quick or made for deep phrases, and nothing is taken from the program itself.
"""


class Wrong(Exception):
    pass


def is_formed(kind):
    """Whether it is of the form of a kind, with any variables."""
    if isinstance(kind, tuple) and len(kind) > 1 and isinstance(kind[0], str):
        return (kind[0] != "->" or len(kind) == 3) and all(is_formed(inner) for inner in kind[1:])
    return isinstance(kind, str)


def are_formed(kinds, count):
    return isinstance(kinds, tuple) and len(kinds) == count and all(is_formed(kind) for kind in kinds)


def standing(kind):
    """The variables of a kind, each once, from the left."""
    if isinstance(kind, str):
        return [kind] if kind.startswith("?") else []
    told = []
    for inner in kind[1:]:
        told += [variable for variable in standing(inner) if variable not in told]
    return told


def with_put(kind, by):
    if isinstance(kind, str):
        return by.get(kind, kind)
    return (kind[0],) + tuple(with_put(inner, by) for inner in kind[1:])


def matched(wide, kind, by):
    """Fills by so that wide becomes kind, or tells False."""
    if isinstance(wide, str):
        if wide.startswith("?"):
            return by.setdefault(wide, kind) == kind
        return wide == kind
    if isinstance(kind, str) or len(wide) != len(kind) or wide[0] != kind[0]:
        return False
    return all(matched(one, other, by) for one, other in zip(wide[1:], kind[1:]))


def settled(kind, by):
    """Kinds put in, over and over, until nothing is left to put."""
    if isinstance(kind, str):
        return settled(by[kind], by) if kind in by else kind
    return (kind[0],) + tuple(settled(inner, by) for inner in kind[1:])


def unified(one, other, by):
    one = settled(one, by)
    other = settled(other, by)
    if one == other:
        return
    if isinstance(other, str) and other.startswith("?"):
        one, other = other, one
    if isinstance(one, str) and one.startswith("?"):
        if one in standing(other):
            raise Wrong()
        by[one] = other
        return
    if isinstance(one, str) or isinstance(other, str) or len(one) != len(other) or one[0] != other[0]:
        raise Wrong()
    for left, right in zip(one[1:], other[1:]):
        unified(left, right, by)


class Rows:
    """The fields and kinds of tags, records and fields, as the program declares them."""

    def __init__(self, program):
        self.tags = {}
        self.records = {}
        self.fields = {}
        for declaration in program:
            if declaration[0] not in ("kind", "record"):
                continue
            own = declaration[2]
            kind = (declaration[1],) + own if own else declaration[1]
            if declaration[0] == "kind":
                for row in declaration[3:]:
                    self.tags[row[0]] = (own, list(row[1:]), kind)
            else:
                self.records[declaration[1]] = (own, [row[1] for row in declaration[3:]], kind)
                for row in declaration[3:]:
                    self.fields[row[0]] = (own, [kind], row[1])


class Found:

    def __init__(self, rows, names, phrase):
        self.rows = rows
        self.by = {}
        self.count = 0
        self.paper = []
        # What is not given in the names is no variable here.
        env = {}
        for name, (own, kind) in names.items():
            env[name] = (own, with_put(kind, {one: "!" + one for one in standing(kind) if one not in own}))
        self.find(env, phrase)

    def new(self):
        self.count += 1
        return "?#" + str(self.count)

    def same(self, one, other):
        unified(one, other, self.by)

    def given(self, env, kinds):
        outer = []
        for own, kind in env.values():
            outer += [one for one in standing(settled(kind, self.by)) if one not in own]
        told = []
        for kind in kinds:
            told += [one for one in standing(settled(kind, self.by)) if one not in told + outer]
        return tuple(told)

    def opened(self, row):
        """A tag's, record's or field's kinds and its own, with new variables."""
        by = {one: self.new() for one in row[0]}
        return [with_put(kind, by) for kind in row[1]], with_put(row[2], by)

    def find_rows(self, env, row, phrases):
        fields, kind = self.opened(row)
        for field, phrase in zip(fields, phrases, strict=True):
            self.same(self.find(env, phrase), field)
        return kind, ()

    def find(self, env, phrase):
        place = len(self.paper)
        self.paper.append(None)
        kind, given = self.row(env, phrase)
        self.paper[place] = (phrase, kind, given)
        return kind

    def row(self, env, phrase):
        if isinstance(phrase, int):
            return "num", ()
        if isinstance(phrase, str) and phrase in self.rows.tags:
            return self.find_rows(env, self.rows.tags[phrase], ())
        if isinstance(phrase, str):
            own, kind = env[phrase]
            by = {one: self.new() for one in own}
            return with_put(settled(kind, {k: v for k, v in self.by.items() if k not in own}), by), tuple(by.values())
        if phrase[0] in self.rows.tags:
            return self.find_rows(env, self.rows.tags[phrase[0]], phrase[1:])
        return getattr(self, "row_" + phrase[0])(env, *phrase[1:])

    def row_fun(self, env, x, inner):
        taken = self.new()
        return ("->", taken, self.find({**env, x: ((), taken)}, inner)), ()

    def row_call(self, env, function, argument):
        told = self.new()
        one = self.find(env, function)
        other = self.find(env, argument)
        self.same(one, ("->", other, told))
        return told, ()

    def row_let(self, env, x, first, second):
        kind = self.find(env, first)
        given = self.given(env, [kind])
        return self.find({**env, x: (given, kind)}, second), given

    def row_ring(self, env, functions, last):
        kinds = [("->", self.new(), self.new()) for function in functions]
        within = {**env, **{function[0]: ((), kind) for function, kind in zip(functions, kinds)}}
        for (f, x, inner), kind in zip(functions, kinds):
            self.same(self.find({**within, x: ((), kind[1])}, inner), kind[2])
        given = self.given(env, kinds)
        behind = {**env, **{function[0]: (given, kind) for function, kind in zip(functions, kinds)}}
        return self.find(behind, last), (given, tuple(kinds))

    def row_case(self, env, inner, *arms):
        kind = self.find(env, inner)
        told = self.new()
        for (tag, *words), phrase in arms:
            fields, whole = self.opened(self.rows.tags[tag])
            self.same(kind, whole)
            more = {word: ((), field) for word, field in zip(words, fields, strict=True)}
            self.same(self.find({**env, **more}, phrase), told)
        return told, ()

    def row_make(self, env, record, *phrases):
        return self.find_rows(env, self.rows.records[record], phrases)

    def row_pick(self, env, field, inner):
        return self.find_rows(env, self.rows.fields[field], (inner,))

    def numbers(self, env, *phrases):
        for phrase in phrases:
            self.same(self.find(env, phrase), "num")
        return "num", ()

    row_plus = row_minus = row_times = row_less = numbers

    def row_if(self, env, first, second, third):
        self.same(self.find(env, first), "num")
        kind = self.find(env, second)
        self.same(self.find(env, third), kind)
        return kind, ()

    def numbered(self):
        names = {}

        def told(kind):
            kind = settled(kind, self.by)
            for one in standing(kind):
                names.setdefault(one, "?" + str(len(names)))
            kind = with_put(kind, names)
            return back(kind)

        def back(kind):
            if isinstance(kind, str):
                return kind[1:] if kind.startswith("!") else kind
            return tuple(back(inner) for inner in kind)

        paper = []
        for phrase, kind, given in self.paper:
            kind = told(kind)
            if isinstance(phrase, tuple) and phrase[0] == "ring":
                given = (tuple(told(one) for one in given[0]), tuple(told(one) for one in given[1]))
            else:
                given = tuple(told(one) for one in given)
            paper.append((kind, given))
        return paper


def plain_found(program, names, phrase):
    """The widest paper, or None where there is none."""
    try:
        return Found(Rows(program), names, phrase).numbered()
    except Wrong:
        return None


class Looked:

    def __init__(self, rows, names, phrase, paper):
        self.rows = rows
        self.left = list(paper)
        self.look(names, phrase)
        self.must(not self.left)

    def must(self, right):
        if not right:
            raise Wrong()

    def look(self, names, phrase):
        self.must(self.left)
        kind, given = self.left.pop(0)
        if isinstance(phrase, str) and phrase not in self.rows.tags:
            own, wide = names[phrase]
            self.must(are_formed(given, len(own)))
            self.must(with_put(wide, dict(zip(own, given))) == kind)
        elif isinstance(phrase, tuple) and phrase[0] in ("let", "ring"):
            getattr(self, "look_" + phrase[0])(names, kind, given, *phrase[1:])
        else:
            self.must(given == ())
            self.plain(names, kind, phrase)
        return kind

    def plain(self, names, kind, phrase):
        if isinstance(phrase, int):
            self.must(kind == "num")
        elif isinstance(phrase, str):
            self.look_rows(names, kind, self.rows.tags[phrase], ())
        elif phrase[0] in self.rows.tags:
            self.look_rows(names, kind, self.rows.tags[phrase[0]], phrase[1:])
        else:
            getattr(self, "look_" + phrase[0])(names, kind, *phrase[1:])

    def look_rows(self, names, kind, row, phrases):
        by = {}
        self.must(matched(row[2], kind, by))
        for field, phrase in zip(row[1], phrases, strict=True):
            self.must(matched(field, self.look(names, phrase), by))

    def unlike(self, names, given):
        self.must(isinstance(given, tuple))
        for place, one in enumerate(given):
            self.must(isinstance(one, str) and one.startswith("?") and one not in given[:place])
            self.must(not any(one in standing(kind) and one not in own for own, kind in names.values()))

    def look_fun(self, names, kind, x, inner):
        self.must(isinstance(kind, tuple) and kind[0] == "->")
        self.must(self.look({**names, x: ((), kind[1])}, inner) == kind[2])

    def look_call(self, names, kind, function, argument):
        one = self.look(names, function)
        self.must(one == ("->", self.look(names, argument), kind))

    def look_let(self, names, kind, given, x, first, second):
        self.unlike(names, given)
        one = self.look(names, first)
        self.must(self.look({**names, x: (given, one)}, second) == kind)

    def look_ring(self, names, kind, given, functions, last):
        self.must(isinstance(given, tuple) and len(given) == 2)
        self.unlike(names, given[0])
        self.must(are_formed(given[1], len(functions)))
        within = {**names, **{function[0]: ((), one) for function, one in zip(functions, given[1])}}
        for (f, x, inner), one in zip(functions, given[1]):
            self.must(isinstance(one, tuple) and one[0] == "->")
            self.must(self.look({**within, x: ((), one[1])}, inner) == one[2])
        behind = {**names, **{function[0]: (given[0], one) for function, one in zip(functions, given[1])}}
        self.must(self.look(behind, last) == kind)

    def look_case(self, names, kind, inner, *arms):
        whole = self.look(names, inner)
        for (tag, *words), phrase in arms:
            own, fields, wide = self.rows.tags[tag]
            by = {}
            self.must(matched(wide, whole, by))
            more = {word: ((), with_put(field, by)) for word, field in zip(words, fields, strict=True)}
            self.must(self.look({**names, **more}, phrase) == kind)

    def look_make(self, names, kind, record, *phrases):
        self.look_rows(names, kind, self.rows.records[record], phrases)

    def look_pick(self, names, kind, field, inner):
        own, (whole,), told = self.rows.fields[field]
        by = {}
        self.must(matched(whole, self.look(names, inner), by))
        self.must(with_put(told, by) == kind)

    def numbers(self, names, kind, *phrases):
        self.must([kind] + [self.look(names, phrase) for phrase in phrases] == ["num"] * 3)

    look_plus = look_minus = look_times = look_less = numbers

    def look_if(self, names, kind, *phrases):
        self.must([self.look(names, phrase) for phrase in phrases] == ["num", kind, kind])


def plain_takes(program, names, phrase, paper):
    try:
        Looked(Rows(program), names, phrase, paper)
    except Wrong:
        return False
    return True


def some_phrase(choice, words, depth):
    """A phrase of the forms of SORTED, its names all there."""
    def more(*added):
        return some_phrase(choice, words + list(added), depth - 1)

    if depth == 0:
        return choice.choice(words + [0, 1, "Nil", "On"] if words else [0, 1, "Nil", "On"])
    x, y, f, g = (choice.choice("xyzfg") for turn in range(4))
    g = "h" if f == g else g
    z = "w" if x == y else y
    return choice.choice((
        lambda: some_phrase(choice, words, 0),
        lambda: ("fun", x, more(x)),
        lambda: ("fun", x, ("fun", y, more(x, y))),
        lambda: ("call", more(), more()),
        lambda: ("call", ("fun", x, more(x)), more()),
        lambda: ("let", x, more(), more(x)),
        lambda: ("let", x, ("fun", y, more(y)), more(x)),
        lambda: ("ring", ((f, x, more(f, x)),), more(f)),
        lambda: ("ring", ((f, x, more(f, g, x)), (g, y, more(f, g, y))), more(f, g)),
        lambda: ("Cons", more(), choice.choice(("Nil", more()))),
        lambda: ("case", more(), (("Nil",), more()), (("Cons", x, z), more(x, z))),
        lambda: ("case", more(), (("On",), more()), (("Off",), more())),
        lambda: ("make", "pair", more(), more()),
        lambda: ("pick", choice.choice(("one", "two")), more()),
        lambda: (choice.choice(("plus", "less")), more(), more()),
        lambda: ("if", more(), more(), more()),
    ))()


def some_kind(choice, depth):
    if depth == 0:
        return choice.choice(("num", "bit", "num"))
    return choice.choice((
        lambda: "num",
        lambda: ("->", some_kind(choice, depth - 1), some_kind(choice, depth - 1)),
        lambda: ("list", some_kind(choice, depth - 1)),
        lambda: ("pair", some_kind(choice, depth - 1), some_kind(choice, depth - 1)),
    ))()


def made_alone(choice, there, kind, depth):
    """A phrase of the kind that does no more than make it."""
    def of(inner):
        return phrase_of(choice, there, inner, depth - 1)

    if kind == "num":
        return choice.choice((0, 7, -3))
    if kind == "bit":
        return choice.choice(("Off", "On"))
    if kind[0] == "->":
        x = choice.choice("xyz")
        return ("fun", x, phrase_of(choice, {**there, x: kind[1]}, kind[2], depth - 1))
    if kind[0] == "list":
        return ("Cons", of(kind[1]), of(kind)) if depth > 0 and choice.random() < 0.6 else "Nil"
    return ("make", "pair", of(kind[1]), of(kind[2]))


def phrase_of(choice, there, kind, depth):
    """A phrase that has the kind, the names that are there having theirs."""
    named = [name for name in there if there[name] == kind]
    if named and choice.random() < 0.4:
        return choice.choice(named)
    if depth <= 0 or choice.random() < 0.2:
        return made_alone(choice, there, kind, depth)
    x, y, f = choice.choice(("xyz", "xzf", "yzf", "zyx"))
    other = some_kind(choice, 1)
    third = some_kind(choice, 1)

    def of(inner, **more):
        return phrase_of(choice, {**there, **more}, inner, depth - 1)

    return choice.choice((
        lambda: ("call", ("fun", x, of(kind, **{x: other})), of(other)),
        lambda: ("call", of(("->", other, kind)), of(other)),
        lambda: ("let", x, of(other), of(kind, **{x: other})),
        lambda: ("let", "i", ("fun", x, x), ("call", ("call", "i", "i"), of(kind))),
        lambda: ("let", "k", ("fun", x, ("fun", y, x)), ("call", ("call", "k", of(kind)), of(other))),
        lambda: ("fun", x, ("let", "j", ("fun", y, ("make", "pair", y, x)), ("call", "j", of(other)))),
        lambda: ("ring", ((f, x, of(third, **{x: other, f: ("->", other, third)})),), of(kind, **{f: ("->", other, third)})),
        lambda: ("ring", (("r", x, ("call", "s", x)), ("s", y, ("if", 0, ("call", "r", y), y))), ("call", "r", of(kind))),
        lambda: ("case", of(("list", other)), (("Nil",), of(kind)), (("Cons", x, y), of(kind, **{x: other, y: ("list", other)}))),
        lambda: ("case", of("bit"), (("On",), of(kind)), (("Off",), of(kind))),
        lambda: ("pick", "one", of(("pair", kind, other))),
        lambda: ("pick", "two", of(("pair", other, kind))),
        lambda: ("if", of("num"), of(kind), of(kind)),
        lambda: (choice.choice(("plus", "minus", "times", "less")), of("num"), of("num")),
    ))()
