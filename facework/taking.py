"""Papers of a program looked at (22)."""

from facework.faces import closed
from facework.forms import body_of, items_of
from facework.grounds import Ground, stands, wanted_kinds
from facework.kinds import put, variables
from facework.looking import takes
from facework.papers import with_names
from facework.reading import has_length


def is_fit(fit, kind, wanted):
    own = variables(kind)
    return has_length(fit, len(own), len(own)) and put(kind, dict(zip(own, fit))) == wanted


def take_body(ground, declaration, told):
    vals = items_of(body_of(declaration), "val")
    if not has_length(told, len(vals), len(vals)):
        return False
    names = ground.names_within(declaration)
    wanted = wanted_kinds(ground.faces, declaration)
    for val, row in zip(vals, told):
        if not has_length(row, 2, 2) or not takes(ground.sorts, names, val[2], row[0]):
            return False
        kind = row[0][0][0]
        right = is_fit(row[1], kind, wanted[val[1]]) if val[1] in wanted else row[1] is None
        if not right:
            return False
        names = with_names(names, [val[1]], [closed(kind)])
    return True


def take_main(ground, declaration, told):
    return takes(ground.sorts, ground.names, declaration[1], told) and told[0][0] == "num"


TAKES = {"part": take_body, "maker": take_body, "main": take_main}


def takes_papers(program, papers):
    if not has_length(papers, len(program), len(program)):
        return False
    ground = Ground(program)
    for declaration, told in zip(program, papers):
        if not stands(ground.faces, declaration):
            return False
        right = TAKES[declaration[0]](ground, declaration, told) if declaration[0] in TAKES else told == ()
        if not right:
            return False
        ground.go_behind(declaration)
    return True
