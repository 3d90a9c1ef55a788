"""What is there at a place of a program (9), and the refusals of words that name and use (9, 10)."""

from facework.errors import NoCount, NoName, Twice


class Seen:

    def __init__(self):
        # How many kinds a kind or record takes.
        self.sort_counts = {}
        # How many tags a kind has; of a tag its kind, and how many phrases it takes.
        self.kind_sizes = {}
        self.tag_kinds = {}
        self.tag_sizes = {}
        # How many phrases a record takes; and which fields are there.
        self.record_sizes = {}
        self.field_names = {}
        # Of a face its number of givers, its hides with their numbers of kinds, and its vals.
        self.face_rows = {}
        # Of a part, and of a giver of the declaration at hand, the name of its face.
        self.part_faces = {}
        self.giver_faces = {}
        # Of a maker its number of givers and the name of its face.
        self.maker_rows = {}

    def names_great(self, word):
        # Faces, parts, makers and givers have their names among one another.
        for there in (self.face_rows, self.part_faces, self.maker_rows, self.giver_faces):
            name_once(word, there)

    def face_of(self, part):
        if part in self.giver_faces:
            return self.giver_faces[part]
        return use(part, self.part_faces)

    def count_of_hide(self, path):
        sides = path.split(".")
        return use(sides[1], self.face_rows[self.face_of(sides[0])][1])

    def uses_val(self, path):
        sides = path.split(".")
        be_there(sides[1], self.face_rows[self.face_of(sides[0])][2])


def name_once(word, there):
    if word in there:
        raise Twice(f"named twice: {word}")


def be_there(word, there):
    if word not in there:
        raise NoName(f"not there: {word}")


def use(word, there):
    be_there(word, there)
    return there[word]


def count_same(word, wanted, count):
    if wanted != count:
        raise NoCount(f"{word} takes {wanted}, not {count}")
