"""The forms of kinds, phrases and programs (5 to 8)."""

from facework.errors import NoText
from facework.things import things_of
from facework.words import ARROW, is_great, is_name, is_number, is_path, is_variable

MOST_DECLARATIONS = 24
MOST_ITEMS = 24
MOST_GIVERS = 2


def has_length(thing, least, most):
    return isinstance(thing, tuple) and least <= len(thing) <= most


def all_are(things, fits):
    return all([fits(thing) for thing in things])


def is_list(thing, least, most, fits):
    return has_length(thing, least, most) and all_are(thing, fits)


def all_fit(thing, within):
    # A worklist, not a recursion: things that are handed in may be deep (8).
    waiting = [thing]
    while len(waiting) > 0:
        inner = within(waiting.pop())
        if inner is None:
            return False
        waiting.extend(inner)
    return True


# The defs called .._within tell the kinds or phrases straight within a thing, None where its form is wrong.


def kinds_within(thing):
    if not isinstance(thing, tuple):
        alone = thing == "num" or is_variable(thing) or is_name(thing) or is_path(thing)
        return [] if alone else None
    if len(thing) == 3 and thing[0] == ARROW:
        return list(thing[1:])
    if 2 <= len(thing) <= 4 and (is_name(thing[0]) or is_path(thing[0])):
        return list(thing[1:])
    return None


def is_kind(thing):
    return all_fit(thing, kinds_within)


def two_within(thing):
    return list(thing[1:]) if len(thing) == 3 else None


def three_within(thing):
    return list(thing[1:]) if len(thing) == 4 else None


def named_within(thing):
    return [thing[2]] if len(thing) == 3 and is_name(thing[1]) else None


def let_within(thing):
    return list(thing[2:]) if len(thing) == 4 and is_name(thing[1]) else None


def make_within(thing):
    return list(thing[2:]) if 3 <= len(thing) <= 6 and is_name(thing[1]) else None


def is_function_form(thing):
    return has_length(thing, 3, 3) and is_name(thing[0]) and is_name(thing[1])


def ring_within(thing):
    if len(thing) != 3 or not is_list(thing[1], 1, 4, is_function_form):
        return None
    return [function[2] for function in thing[1]] + [thing[2]]


def is_arm_form(thing):
    if not has_length(thing, 2, 2) or not has_length(thing[0], 1, 5):
        return False
    return is_great(thing[0][0]) and all_are(thing[0][1:], is_name)


def case_within(thing):
    if not is_list(thing[2:], 1, 6, is_arm_form):
        return None
    return [thing[1]] + [arm[1] for arm in thing[2:]]


PHRASE_FORMS = {
    "fun": named_within,
    "call": two_within,
    "let": let_within,
    "ring": ring_within,
    "case": case_within,
    "make": make_within,
    "pick": named_within,
    "plus": two_within,
    "minus": two_within,
    "times": two_within,
    "less": two_within,
    "if": three_within,
}


def phrases_within(thing):
    if not isinstance(thing, tuple):
        alone = is_number(thing) or is_name(thing) or is_path(thing) or is_great(thing)
        return [] if alone else None
    if len(thing) == 0 or not isinstance(thing[0], str):
        return None
    if is_great(thing[0]):
        return list(thing[1:]) if 2 <= len(thing) <= 5 else None
    if thing[0] in PHRASE_FORMS:
        return PHRASE_FORMS[thing[0]](thing)
    return None


def is_phrase(thing):
    return all_fit(thing, phrases_within)


def is_tag_row(thing):
    return has_length(thing, 1, 5) and is_great(thing[0]) and all_are(thing[1:], is_kind)


def is_field_row(thing):
    return has_length(thing, 2, 2) and is_name(thing[0]) and is_kind(thing[1])


def is_sort_declaration(thing, most, is_row):
    if len(thing) < 3 or not is_name(thing[1]):
        return False
    return is_list(thing[2], 0, 3, is_variable) and is_list(thing[3:], 1, most, is_row)


def is_kind_declaration(thing):
    return is_sort_declaration(thing, 6, is_tag_row)


def is_record_declaration(thing):
    return is_sort_declaration(thing, 4, is_field_row)


def is_given_face(thing):
    return is_great(thing) or is_list(thing, 2, 3, is_great)


def is_giver(thing):
    return has_length(thing, 2, 2) and is_great(thing[0]) and is_given_face(thing[1])


def is_hide_count(thing):
    return is_number(thing) and 0 <= thing <= 2


def is_item(thing):
    if not has_length(thing, 3, 3) or not is_name(thing[1]):
        return False
    if thing[0] == "hide":
        return is_hide_count(thing[2])
    return thing[0] == "val" and is_kind(thing[2])


def is_face_declaration(thing):
    if len(thing) < 3 or not is_great(thing[1]):
        return False
    return is_list(thing[2], 0, MOST_GIVERS, is_giver) and is_list(thing[3:], 0, MOST_ITEMS, is_item)


def is_body_item(thing):
    if not has_length(thing, 3, 4) or not is_name(thing[1]):
        return False
    if thing[0] == "hide":
        return len(thing) == 4 and is_list(thing[2], 0, 2, is_variable) and is_kind(thing[3])
    return thing[0] == "val" and len(thing) == 3 and is_phrase(thing[2])


def is_body(things):
    return is_list(things, 0, MOST_ITEMS, is_body_item)


def is_part_declaration(thing):
    return len(thing) >= 3 and is_great(thing[1]) and is_given_face(thing[2]) and is_body(thing[3:])


def is_maker_declaration(thing):
    if len(thing) < 4 or not is_great(thing[1]):
        return False
    return is_list(thing[2], 1, MOST_GIVERS, is_giver) and is_given_face(thing[3]) and is_body(thing[4:])


def is_apply_declaration(thing):
    # The part, the maker and one or two parts given to it: great names all.
    return is_list(thing[1:], 3, 4, is_great)


DECLARATION_FORMS = {
    "kind": is_kind_declaration,
    "record": is_record_declaration,
    "face": is_face_declaration,
    "part": is_part_declaration,
    "maker": is_maker_declaration,
    "apply": is_apply_declaration,
}


def is_declaration(thing):
    if not isinstance(thing, tuple) or len(thing) == 0 or not isinstance(thing[0], str):
        return False
    return thing[0] in DECLARATION_FORMS and DECLARATION_FORMS[thing[0]](thing)


def is_main(thing):
    return has_length(thing, 2, 2) and thing[0] == "main" and is_phrase(thing[1])


def is_program(things):
    if len(things) == 0 or not is_main(things[-1]):
        return False
    return is_list(things[:-1], 0, MOST_DECLARATIONS - 1, is_declaration)


def read(text):
    program = things_of(text)
    if not is_program(program):
        raise NoText("a text, but not of the form of a program")
    return program
