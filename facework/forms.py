"""What kinds, phrases and faces have in common, behind texts (13)."""


def headed(thing):
    # A name alone means what it would mean in brackets with nothing behind it.
    return thing if isinstance(thing, tuple) else (thing,)


def is_open(thing):
    # Behind texts a variable may have any signs behind its first one.
    return isinstance(thing, str) and thing.startswith("?")
