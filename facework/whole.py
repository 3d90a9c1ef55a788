"""Programs found, declaration by declaration (21)."""

from facework.errors import NoFace
from facework.faces import closed
from facework.finding import found
from facework.forms import body_of, items_of
from facework.grounds import Ground, stands, wanted_kinds
from facework.kinds import instance, variables
from facework.papers import with_names


def papers_of_vals(ground, declaration):
    names = ground.names_within(declaration)
    papers = []
    for val in items_of(body_of(declaration), "val"):
        paper = found(ground.sorts, names, val[2])
        papers.append((val[1], paper))
        names = with_names(names, [val[1]], [closed(paper[0][0])])
    return papers


def fit_of(kind, wanted):
    by = instance(kind, wanted)
    if by is None:
        raise NoFace("a val that is not as wide as the face asks")
    return tuple([by[variable] for variable in variables(kind)])


def papers_of_body(ground, declaration):
    papers = papers_of_vals(ground, declaration)
    wanted = wanted_kinds(ground.faces, declaration)
    fits = dict([(val, fit_of(paper[0][0], wanted[val])) for val, paper in papers if val in wanted])
    return tuple([(paper, fits.get(val)) for val, paper in papers])


def paper_of_main(ground, declaration):
    # The rows between those of the plus and of its 0.
    return found(ground.sorts, ground.names, ("plus", declaration[1], 0))[1:-1]


PAPERS = {"part": papers_of_body, "maker": papers_of_body, "main": paper_of_main}


def papers_of(program):
    ground = Ground(program)
    papers = []
    for declaration in program:
        if not stands(ground.faces, declaration):
            raise NoFace("a part of another face, or a hide or val that is not there")
        papers.append(PAPERS[declaration[0]](ground, declaration) if declaration[0] in PAPERS else ())
        ground.go_behind(declaration)
    return tuple(papers)
