"""The faces of parts, and what parts and givers show (12, 19)."""

from facework.forms import by_givers, formed, given_face, headed, items_of, named
from facework.kinds import remade, variables
from facework.words import is_path


def turned_face(given, by):
    # R as a tuple, with parts in the place of givers, all at once.
    words = headed(given)
    return words[:1] + tuple([by.get(word, word) for word in words[1:]])


def turned_word(word, by):
    if not is_path(word):
        return word
    sides = word.split(".")
    return by.get(sides[0], sides[0]) + "." + sides[1]


def closed(kind):
    # The scheme that gives all variables of the kind.
    return (tuple(variables(kind)), kind)


class Faces:

    def __init__(self, program):
        # Of a face and of a maker its declaration; of a part, also an applied one, its R as a tuple.
        self.face_declarations = named(program, "face")
        self.maker_declarations = named(program, "maker")
        self.part_faces = {}
        for declaration in program:
            if declaration[0] == "part":
                self.part_faces[declaration[1]] = headed(given_face(declaration))
            elif declaration[0] == "apply":
                self.part_faces[declaration[1]] = self.face_of_applied(declaration)

    def face_of_applied(self, declaration):
        maker = self.maker_declarations[declaration[2]]
        return turned_face(given_face(maker), by_givers(maker[2], declaration[3:]))

    def face_of(self, part):
        return self.part_faces[part]

    def givers_of_face(self, name):
        return self.face_declarations[name][2]

    def givers_of_maker(self, name):
        return self.maker_declarations[name][2]

    def items_of_face(self, name, sort):
        # Of each hide of a face how many kinds it takes; of each val its kind, as it is written.
        items = items_of(self.face_declarations[name][3:], sort)
        return dict([(item[1], item[2]) for item in items])

    def kinds_of_vals(self, given, kind_of_hide):
        # Of each val of a face its kind, the givers' paths turned to what is given, and own hides
        # to the kind that is told of a hide and the kinds that stand with it.
        by = by_givers(self.givers_of_face(given[0]), given[1:])
        hides = self.items_of_face(given[0], "hide")
        vals = self.items_of_face(given[0], "val")

        def made(head, inner):
            if head in hides:
                return kind_of_hide(head, inner)
            return formed(turned_word(head, by), inner)

        return dict([(val, remade(vals[val], made)) for val in vals])

    def shown_by(self, name, given):
        # What a part or a giver of that name and face shows.
        kinds = self.kinds_of_vals(given, lambda hide, inner: formed(f"{name}.{hide}", inner))
        return dict([(f"{name}.{val}", closed(kinds[val])) for val in kinds])

    def shows(self, part):
        return self.shown_by(part, self.face_of(part))
