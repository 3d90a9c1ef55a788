"""The names, arguments and values of the interface, as the document tells them."""

import importlib
import inspect
import unittest

FUNCTIONS = {
    "things": ("things_of(text)",),
    "reading": ("is_kind(thing)", "is_phrase(thing)", "read(text)"),
    "showing": ("shown(thing)", "shown_program(program)"),
    "scopes": ("look_over(program)",),
    "kinds": ("variables(kind)", "put(kind, by)", "instance(wide, kind)"),
    "joining": ("joined(pairs)",),
    "finding": ("found(sorts, names, phrase)",),
    "looking": ("takes(sorts, names, phrase, paper)",),
    "whole": ("papers_of(program)",),
    "taking": ("takes_papers(program, papers)",),
    "running": ("run(program, most=300)",),
    "coding": ("coded(program)",),
    "machine": ("done(code, most=300)",),
    "ties": ("tied(program, part, body, tie, most=100)",),
}
CLASSES = {
    "sorts": ("Sorts(program)", ("tag(name)", "field(name)", "record(name)", "kind_of(name)", "tags(name)")),
    "faces": ("Faces(program)", ("face_of(part)", "shows(part)")),
    "desk": ("Desk()", ("say(row)",)),
}


def told(name, thing):
    return name + str(inspect.signature(thing))


class Interface(unittest.TestCase):

    def test_functions(self):
        for module, wanted in FUNCTIONS.items():
            for row in wanted:
                name = row.split("(")[0]
                self.assertEqual(told(name, getattr(importlib.import_module("facework." + module), name)), row)

    def test_classes(self):
        for module, (wanted, methods) in CLASSES.items():
            name = wanted.split("(")[0]
            own = getattr(importlib.import_module("facework." + module), name)
            self.assertEqual(told(name, own), wanted)
            for row in methods:
                method = row.split("(")[0]
                self.assertEqual(told(method, getattr(own, method)).replace("(self, ", "("), row)


if __name__ == "__main__":
    unittest.main()
