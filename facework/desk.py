"""The desk: rows that are told it, and what it answers (29)."""

from facework.coding import coded
from facework.errors import NoName, NoProgram, NoRow
from facework.faces import Faces
from facework.forms import made_parts
from facework.kinds import put
from facework.machine import done
from facework.reading import read
from facework.running import run
from facework.scopes import look_over
from facework.showing import shown
from facework.whole import papers_of
from facework.words import is_path


def all_shown(program):
    faces = Faces(program)
    told = {}
    for name, body, givers in made_parts(program):
        told.update(faces.shows(name))
    return told


def kind_shown(program, path):
    schemes = all_shown(program)
    if path not in schemes:
        raise NoName(f"no part shows this: {path}")
    numbered = [(variable, f"?{count}") for count, variable in enumerate(schemes[path][0])]
    return shown(put(schemes[path][1], dict(numbered)))


def number_of_run(desk):
    return run(desk.program)


def number_of_code(desk):
    return done(coded(desk.program))


def count_of_rows(desk):
    return len(desk.papers[-1])


ANSWERS = {"run": number_of_run, "code": number_of_code, "main": count_of_rows}


def is_load(row):
    # One blank stands between, and no more.
    return row.startswith("load ") and not row.startswith("load  ")


def is_kind_row(row):
    words = row.split(" ")
    return len(words) == 2 and words[0] == "kind" and is_path(words[1])


class Desk:

    def __init__(self):
        self.program = None
        self.papers = None

    def load(self, text):
        program = read(text)
        look_over(program)
        # Nothing is kept ahead of the last refusal.
        self.papers = papers_of(program)
        self.program = program
        return "taken"

    def say(self, row):
        if is_load(row):
            return self.load(row[len("load "):])
        if row not in ANSWERS and not is_kind_row(row):
            raise NoRow(f"no such row: {row}")
        if self.program is None:
            raise NoProgram("nothing is kept")
        if row in ANSWERS:
            return str(ANSWERS[row](self))
        return kind_shown(self.program, row.split(" ")[1])
