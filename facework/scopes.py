"""Programs looked over: all words from the left, the first with a fault refuses (9 to 12)."""

from facework.forms import headed
from facework.seen import Seen, be_there, count_same, name_once, use
from facework.uses import look_at_kind, look_through


def name_all(words):
    there = {}
    for word in words:
        name_once(word, there)
        there[word] = True
    return there


def look_at_sort(seen, declaration):
    # What a kind and a record begin with; told are its variables.
    name_once(declaration[1], seen.sort_counts)
    seen.sort_counts[declaration[1]] = len(declaration[2])
    return name_all(declaration[2])


def look_at_kinds(seen, kinds, variables):
    for kind in kinds:
        look_at_kind(seen, kind, {}, variables)


def look_at_kind_declaration(seen, declaration):
    variables = look_at_sort(seen, declaration)
    seen.kind_sizes[declaration[1]] = len(declaration) - 3
    for row in declaration[3:]:
        name_once(row[0], seen.tag_kinds)
        seen.tag_kinds[row[0]] = declaration[1]
        seen.tag_sizes[row[0]] = len(row) - 1
        look_at_kinds(seen, row[1:], variables)


def look_at_record(seen, declaration):
    variables = look_at_sort(seen, declaration)
    seen.record_sizes[declaration[1]] = len(declaration) - 3
    for field in declaration[3:]:
        name_once(field[0], seen.field_names)
        seen.field_names[field[0]] = True
        look_at_kinds(seen, field[1:], variables)


def look_at_given_face(seen, given):
    # R, a face with its givers given; told is the name of the face.
    words = headed(given)
    count_same(words[0], use(words[0], seen.face_rows)[0], len(words) - 1)
    for part in words[1:]:
        seen.face_of(part)
    return words[0]


def look_at_givers(seen, own, givers):
    for giver in givers:
        name_once(giver[0], (own,))
        seen.names_great(giver[0])
        # A giver is there behind its word, and so already within its own R.
        seen.giver_faces[giver[0]] = headed(giver[1])[0]
        look_at_given_face(seen, giver[1])


def name_hide(seen, word, hides):
    name_once(word, hides)
    name_once(word, seen.sort_counts)


def look_at_face(seen, declaration):
    seen.names_great(declaration[1])
    look_at_givers(seen, declaration[1], declaration[2])
    hides = {}
    vals = {}
    for item in declaration[3:]:
        if item[0] == "hide":
            name_hide(seen, item[1], hides)
            hides[item[1]] = item[2]
        else:
            name_once(item[1], vals)
            vals[item[1]] = True
            look_at_kind(seen, item[2], hides, None)
    seen.face_rows[declaration[1]] = (len(declaration[2]), hides, vals)


def look_at_body(seen, body):
    hides = {}
    vals = ()
    for item in body:
        if item[0] == "hide":
            name_hide(seen, item[1], hides)
            hides[item[1]] = True
            look_at_kind(seen, item[3], {}, name_all(item[2]))
        else:
            name_once(item[1], vals)
            look_through(seen, item[2], vals)
            vals = vals + (item[1],)


def look_at_part(seen, declaration):
    seen.names_great(declaration[1])
    face = look_at_given_face(seen, declaration[2])
    look_at_body(seen, declaration[3:])
    seen.part_faces[declaration[1]] = face


def look_at_maker(seen, declaration):
    seen.names_great(declaration[1])
    look_at_givers(seen, declaration[1], declaration[2])
    face = look_at_given_face(seen, declaration[3])
    look_at_body(seen, declaration[4:])
    seen.maker_rows[declaration[1]] = (len(declaration[2]), face)


def look_at_apply(seen, declaration):
    seen.names_great(declaration[1])
    row = use(declaration[2], seen.maker_rows)
    count_same(declaration[2], row[0], len(declaration) - 3)
    for part in declaration[3:]:
        be_there(part, seen.part_faces)
    seen.part_faces[declaration[1]] = row[1]


def look_at_main(seen, declaration):
    look_through(seen, declaration[1], ())


DECLARATION_LOOKS = {
    "kind": look_at_kind_declaration,
    "record": look_at_record,
    "face": look_at_face,
    "part": look_at_part,
    "maker": look_at_maker,
    "apply": look_at_apply,
    "main": look_at_main,
}


def look_over(program):
    seen = Seen()
    for declaration in program:
        seen.giver_faces = {}
        DECLARATION_LOOKS[declaration[0]](seen, declaration)
