"""What kinds, phrases, faces and declarations are made of, behind texts (7, 13)."""


def headed(thing):
    # A name alone means what it would mean in brackets with nothing behind it.
    return thing if isinstance(thing, tuple) else (thing,)


def is_open(thing):
    # Behind texts a variable may have any signs behind its first one.
    return isinstance(thing, str) and thing.startswith("?")


def formed(head, inner):
    # A name with what stands behind it, alone where nothing does.
    return (head,) + tuple(inner) if len(inner) > 0 else head


def items_of(items, sort):
    # Of the items of a face or a body the hides alone, or the vals alone.
    return [item for item in items if item[0] == sort]


def givers_of(declaration):
    return declaration[2] if declaration[0] in ("face", "maker") else ()


def given_face(declaration):
    # R, of a part or a maker.
    return declaration[3] if declaration[0] == "maker" else declaration[2]


def body_of(declaration):
    return declaration[4:] if declaration[0] == "maker" else declaration[3:]


def named(program, sort):
    # The declarations of one sort by their names.
    return dict([(declaration[1], declaration) for declaration in program if declaration[0] == sort])


def by_givers(givers, parts):
    return dict(zip([giver[0] for giver in givers], parts))


def made_parts(program):
    # Of each part, applied ones too, in order: its name, the body that makes it, and which parts
    # the givers in it are.
    makers = named(program, "maker")
    told = []
    for declaration in program:
        if declaration[0] == "part":
            told.append((declaration[1], body_of(declaration), {}))
        elif declaration[0] == "apply":
            maker = makers[declaration[2]]
            told.append((declaration[1], body_of(maker), by_givers(maker[2], declaration[3:])))
    return told


def field_places(program):
    # Of each field its record, and which of its fields it is, from 0 on.
    told = {}
    for record in named(program, "record").values():
        for place, field in enumerate(record[3:]):
            told[field[0]] = (record[1], place)
    return told
