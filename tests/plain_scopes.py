"""Looking over written down once more: every word has a place, and every name is there from one
place to another. All faults are gathered, and the first one tells. Nothing is taken from the program.
"""

RANKS = {"Twice": 0, "NoName": 1, "NoCount": 2}


def is_variable(word):
    return word.startswith("?")


class Plain:

    def __init__(self, program):
        self.program = program
        self.spans = {}
        self.end = self.span((), program, 0)
        self.names = []
        self.faults = []
        self.waiting = []
        for count, declaration in enumerate(program):
            getattr(self, "see_" + declaration[0])((count,), declaration)
        # Only when all is named is anything looked for.
        for look in self.waiting:
            look()

    def span(self, path, thing, place):
        """Gives each word a place, each thing the places from its first word to behind its last."""
        start = place
        if isinstance(thing, tuple):
            for count, inner in enumerate(thing):
                place = self.span(path + (count,), inner, place)
        else:
            place += 1
        self.spans[path] = (start, place)
        return place

    def fault(self, name, place):
        self.faults.append((place, RANKS[name], name))

    def name(self, group, path, word, start, end, told=None):
        """A word of the group is there from start to before end; Twice where one is there at its place."""
        place = self.spans[path][0]
        self.names.append((group, word, place, start, end, told))
        self.waiting.append(lambda: self.once(group, word, place))

    def once(self, group, word, place):
        if self.found(group, word, place) is not None:
            self.fault("Twice", place)

    def found(self, group, word, place):
        for other, named, own, start, end, told in self.names:
            if other == group and named == word and own != place and start <= place < end:
                return (told,)
        return None

    def use(self, group, path, word, count=None, place=None):
        """NoName where the word isn't there; NoCount where its first number isn't the count."""
        place = self.spans[path][0] if place is None else place

        def look():
            told = self.found(group, word, place)
            if told is None:
                self.fault("NoName", place)
            elif count is not None and told[0][0] != count:
                self.fault("NoCount", place)

        self.waiting.append(look)

    # Kinds and records.

    def see_sort(self, path, declaration):
        here = self.spans[path + (1,)][1]
        self.name("sort", path + (1,), declaration[1], here, self.end, (len(declaration[2]),))
        self.see_variables(path + (2,), declaration[2], self.spans[path][1])

    def see_variables(self, path, words, end):
        for count, word in enumerate(words):
            own = path + (count,)
            self.name("variable", own, word, self.spans[own][1], end)

    def see_kind(self, path, declaration):
        self.see_sort(path, declaration)
        for count, row in enumerate(declaration[3:], start=3):
            own = path + (count, 0)
            told = (len(row) - 1, declaration[1], len(declaration) - 3)
            self.name("tag", own, row[0], self.spans[own][1], self.end, told)
            for inner in range(1, len(row)):
                self.see_a_kind(path + (count, inner), row[inner], False, True)

    def see_record(self, path, declaration):
        self.see_sort(path, declaration)
        own = path + (1,)
        self.names.append(("record", declaration[1], self.spans[own][0], self.spans[own][1], self.end, (len(declaration) - 3,)))
        for count, row in enumerate(declaration[3:], start=3):
            own = path + (count, 0)
            self.name("field", own, row[0], self.spans[own][1], self.end)
            self.see_a_kind(path + (count, 1), row[1], False, True)

    def see_a_kind(self, path, kind, in_face, bound):
        head = kind[0] if isinstance(kind, tuple) else kind
        own = path + (0,) if isinstance(kind, tuple) else path
        count = len(kind) - 1 if isinstance(kind, tuple) else 0
        if is_variable(head):
            if bound:
                self.use("variable", own, head)
        elif "." in head:
            self.use_path(own, head, "hides", count)
        elif head not in ("num", "->"):
            self.use_sort(own, head, count, in_face)
        for inner in range(1, count + 1):
            self.see_a_kind(path + (inner,), kind[inner], in_face, bound)

    def use_sort(self, path, word, count, in_face):
        place = self.spans[path][0]

        def look():
            told = self.found("sort", word, place)
            if told is None and in_face:
                told = self.found("hide", word, place)
            if told is None:
                self.fault("NoName", place)
            elif told[0][0] != count:
                self.fault("NoCount", place)

        self.waiting.append(look)

    def use_path(self, path, word, which, count):
        place = self.spans[path][0]
        part, name = word.split(".")

        def look():
            told = self.found("part", part, place) or self.found("giver", part, place)
            face = told and [one for one in self.program if one[0] == "face" and one[1] == told[0][0]]
            items = {item[1]: item[2] for item in face[0][3:] if item[0] + "s" == which} if face else {}
            if name not in items:
                self.fault("NoName", place)
            elif which == "hides" and items[name] != count:
                self.fault("NoCount", place)

        self.waiting.append(look)

    # Faces, parts, makers, applied parts.

    def see_great(self, path, word, group, told):
        end = self.spans[path][1]
        self.name("great", path + (1,), word, end, self.end)
        self.names.append((group, word, self.spans[path + (1,)][0], end, self.end, told))

    def see_given(self, path, given):
        head = given[0] if isinstance(given, tuple) else given
        parts = given[1:] if isinstance(given, tuple) else ()
        self.use("face", path + (0,) if parts else path, head, len(parts))
        for count, part in enumerate(parts, start=1):
            self.use_part(path + (count,), part, True)
        return head

    def use_part(self, path, part, or_giver):
        place = self.spans[path][0]

        def look():
            if self.found("part", part, place) is None and not (or_giver and self.found("giver", part, place)):
                self.fault("NoName", place)

        self.waiting.append(look)

    def see_givers(self, path, declaration):
        end = self.spans[path][1]
        for count, giver in enumerate(declaration[2]):
            own = path + (2, count, 0)
            place, here = self.spans[own]
            head = giver[1][0] if isinstance(giver[1], tuple) else giver[1]
            self.name("great", own, giver[0], here, end)
            self.names.append(("giver", giver[0], place, here, end, (head,)))
            if giver[0] == declaration[1]:
                self.fault("Twice", place)
            self.see_given(path + (2, count, 1), giver[1])

    def see_face(self, path, declaration):
        self.see_great(path, declaration[1], "face", (len(declaration[2]),))
        self.see_givers(path, declaration)
        end = self.spans[path][1]
        for count, item in enumerate(declaration[3:], start=3):
            own = path + (count, 1)
            here = self.spans[own][1]
            if item[0] == "hide":
                self.see_hide(own, item[1], here, end, (item[2],))
            else:
                self.name("val", own, item[1], here, end)
                self.see_a_kind(path + (count, 2), item[2], True, False)

    def see_hide(self, path, word, here, end, told):
        self.name("hide", path, word, here, end, told)
        place = self.spans[path][0]
        self.waiting.append(lambda: self.once("sort", word, place))

    def see_body(self, path, body, first):
        end = self.spans[path][1]
        for count, item in enumerate(body, start=first):
            own = path + (count, 1)
            here = self.spans[own][1]
            if item[0] == "hide":
                self.see_hide(own, item[1], here, end, None)
                self.see_variables(path + (count, 2), item[2], self.spans[path + (count,)][1])
                self.see_a_kind(path + (count, 3), item[3], False, True)
            else:
                self.name("val", own, item[1], here, end)
                behind = self.spans[path + (count,)][1]
                self.names.append(("local", item[1], self.spans[own][0], behind, end, None))
                self.see_a_phrase(path + (count, 2), item[2])

    def see_part(self, path, declaration):
        face = self.see_given(path + (2,), declaration[2])
        self.see_great(path, declaration[1], "part", (face,))
        self.see_body(path, declaration[3:], 3)

    def see_maker(self, path, declaration):
        face = self.see_given(path + (3,), declaration[3])
        self.see_great(path, declaration[1], "maker", (len(declaration[2]), face))
        self.see_givers(path, declaration)
        self.see_body(path, declaration[4:], 4)

    def see_apply(self, path, declaration):
        makers = [one for one in self.program if one[0] == "maker" and one[1] == declaration[2]]
        given = makers[0][3] if makers else None
        self.see_great(path, declaration[1], "part", (given[0] if isinstance(given, tuple) else given,))
        self.use("maker", path + (2,), declaration[2], len(declaration) - 3)
        for count, part in enumerate(declaration[3:], start=3):
            self.use_part(path + (count,), part, False)

    def see_main(self, path, declaration):
        self.see_a_phrase(path + (1,), declaration[1])

    # Phrases.

    def local(self, path, word, inner):
        """The word is there in the inner thing."""
        self.names.append(("local", word, self.spans[path][0]) + self.spans[inner] + (None,))

    def see_a_phrase(self, path, phrase):
        if isinstance(phrase, int):
            return
        head = phrase[0] if isinstance(phrase, tuple) else phrase
        count = len(phrase) - 1 if isinstance(phrase, tuple) else 0
        if "." in head:
            self.use_path(path, head, "vals", 0)
        elif head[0].isupper():
            self.use("tag", path + (0,) if count else path, head, count)
            self.see_phrases(path, phrase, 1, count)
        elif count == 0:
            self.use("local", path, head)
        else:
            getattr(self, "see_phrase_" + head, self.see_plain)(path, phrase)

    def see_phrases(self, path, phrase, first, last):
        for count in range(first, last + 1):
            self.see_a_phrase(path + (count,), phrase[count])

    def see_plain(self, path, phrase):
        self.see_phrases(path, phrase, 1, len(phrase) - 1)

    def see_phrase_fun(self, path, phrase):
        self.local(path + (1,), phrase[1], path + (2,))
        self.see_phrases(path, phrase, 2, 2)

    def see_phrase_let(self, path, phrase):
        self.local(path + (1,), phrase[1], path + (3,))
        self.see_phrases(path, phrase, 2, 3)

    def see_phrase_ring(self, path, phrase):
        for count, function in enumerate(phrase[1]):
            own = path + (1, count)
            self.local(own + (0,), function[0], path)
            if function[0] in [other[0] for other in phrase[1][:count]]:
                self.fault("Twice", self.spans[own + (0,)][0])
            self.local(own + (1,), function[1], own + (2,))
            self.see_a_phrase(own + (2,), function[2])
        self.see_phrases(path, phrase, 2, 2)

    def see_phrase_make(self, path, phrase):
        self.use("record", path + (1,), phrase[1], len(phrase) - 2)
        self.see_phrases(path, phrase, 2, len(phrase) - 1)

    def see_phrase_pick(self, path, phrase):
        self.use("field", path + (1,), phrase[1])
        self.see_phrases(path, phrase, 2, 2)

    def see_phrase_case(self, path, phrase):
        self.see_phrases(path, phrase, 1, 1)
        tags = [arm[0][0] for arm in phrase[2:]]
        first = self.spans[path + (2, 0, 0)][0]
        for count, arm in enumerate(phrase[2:]):
            own = path + (count + 2,)
            place = self.spans[own + (0, 0)][0]
            if tags[count] in tags[:count]:
                self.fault("Twice", place)
            self.use("tag", own + (0, 0), tags[count], len(arm[0]) - 1)
            self.waiting.append(self.same_kind(tags[count], place, tags[0], first))
            for inner in range(1, len(arm[0])):
                self.local(own + (0, inner), arm[0][inner], own + (1,))
                if arm[0][inner] in arm[0][1:inner]:
                    self.fault("Twice", self.spans[own + (0, inner)][0])
            self.see_a_phrase(own + (1,), arm[1])
        self.waiting.append(self.all_tags(tags, first, self.spans[path][1]))

    def same_kind(self, tag, place, other, first):
        def look():
            one = self.found("tag", tag, place)
            two = self.found("tag", other, first)
            if one and two and one[0][1] != two[0][1]:
                self.fault("NoCount", place)
        return look

    def all_tags(self, tags, first, end):
        def look():
            told = self.found("tag", tags[0], first)
            if told and len(tags) != told[0][2]:
                # Behind all that is in the case, but ahead of the word behind it.
                self.fault("NoCount", end - 0.5)
        return look


def plain_look_over(program):
    """The name of the first fault, or None."""
    faults = sorted(Plain(program).faults)
    return faults[0][2] if faults else None
