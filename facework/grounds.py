"""What the declarations of a program stand on: faces that are sound, hides and vals that are there,
the names at their phrases, and the kinds that their vals are to fit (19 to 21)."""

from facework.faces import Faces, turned_face
from facework.forms import body_of, given_face, givers_of, headed, items_of
from facework.kinds import put
from facework.sorts import Sorts


class Ground:

    def __init__(self, program):
        self.sorts = Sorts(program)
        self.faces = Faces(program)
        # What the parts ahead of the declaration at hand show.
        self.names = {}

    def names_within(self, declaration):
        told = dict(self.names)
        for giver in givers_of(declaration):
            told.update(self.faces.shown_by(giver[0], headed(giver[1])))
        return told

    def go_behind(self, declaration):
        if declaration[0] in ("part", "apply"):
            self.names.update(self.faces.shows(declaration[1]))


def faces_of_givers(givers):
    return dict([(giver[0], headed(giver[1])) for giver in givers])


def have_wanted(faces, there, givers, parts):
    # Whether each part has the face that its giver wants. In a maker, whose givers are there, a
    # giver may be called like a part that comes behind: it is looked for first.
    by = {}
    for giver, part in zip(givers, parts):
        face = there[part] if part in there else faces.face_of(part)
        if face != turned_face(giver[1], by):
            return False
        by[giver[0]] = part
    return True


def is_sound(faces, there, given):
    words = headed(given)
    return have_wanted(faces, there, faces.givers_of_face(words[0]), words[1:])


def are_sound(faces, there, givers):
    # A giver that stands in its own R never has the face that is wanted there.
    return all([is_sound(faces, there, giver[1]) for giver in givers])


def has_hides(faces, declaration):
    wanted = faces.items_of_face(headed(given_face(declaration))[0], "hide")
    hides = items_of(body_of(declaration), "hide")
    counts = dict([(item[1], len(item[2])) for item in hides])
    return all([counts.get(hide) == wanted[hide] for hide in wanted])


def has_vals(faces, declaration):
    vals = [item[1] for item in items_of(body_of(declaration), "val")]
    return all([val in vals for val in faces.items_of_face(headed(given_face(declaration))[0], "val")])


def stands(faces, declaration):
    # Whether all is as a declaration needs it ahead of the finding of its kinds.
    if declaration[0] == "apply":
        return have_wanted(faces, {}, faces.givers_of_maker(declaration[2]), declaration[3:])
    givers = givers_of(declaration)
    there = faces_of_givers(givers)
    if not are_sound(faces, there, givers):
        return False
    if declaration[0] not in ("part", "maker"):
        return True
    right = is_sound(faces, there, given_face(declaration))
    return right and has_hides(faces, declaration) and has_vals(faces, declaration)


def wanted_kinds(faces, declaration):
    # Of each val of the face the kind that the body's val is to fit.
    hides = items_of(body_of(declaration), "hide")
    own = dict([(item[1], (item[2], item[3])) for item in hides])
    return faces.kinds_of_vals(
        headed(given_face(declaration)),
        lambda hide, inner: put(own[hide][1], dict(zip(own[hide][0], inner))),
    )
