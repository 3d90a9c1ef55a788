"""What kinds, phrases, faces and declarations are made of, behind texts (7, 13)."""


def headed(thing):
    # A name alone means what it would mean in brackets with nothing behind it.
    return thing if isinstance(thing, tuple) else (thing,)


def is_open(thing):
    # Behind texts a variable may have any signs behind its first one.
    return isinstance(thing, str) and thing.startswith("?")


def formed(head, inner):
    # A name with what stands behind it, alone where nothing does.
    return (head,) + tuple(inner) if len(inner) > 0 else head


def items_of(items, sort):
    # Of the items of a face or a body the hides alone, or the vals alone.
    return [item for item in items if item[0] == sort]


def givers_of(declaration):
    return declaration[2] if declaration[0] in ("face", "maker") else ()


def given_face(declaration):
    # R, of a part or a maker.
    return declaration[3] if declaration[0] == "maker" else declaration[2]


def body_of(declaration):
    return declaration[4:] if declaration[0] == "maker" else declaration[3:]
