"""The schemes that the kinds and records of a program give (14)."""

from facework.forms import formed
from facework.kinds import from_each
from facework.words import ARROW


class Sorts:

    def __init__(self, program):
        self.tag_schemes = {}
        self.kinds_of_tags = {}
        self.tags_of_kinds = {}
        self.record_schemes = {}
        self.field_schemes = {}
        for declaration in program:
            if declaration[0] == "kind":
                self.take_kind(declaration)
            elif declaration[0] == "record":
                self.take_record(declaration)

    def take_kind(self, declaration):
        kind = formed(declaration[1], declaration[2])
        for row in declaration[3:]:
            self.tag_schemes[row[0]] = (declaration[2], from_each(row[1:], kind))
            self.kinds_of_tags[row[0]] = declaration[1]
        self.tags_of_kinds[declaration[1]] = [row[0] for row in declaration[3:]]

    def take_record(self, declaration):
        kind = formed(declaration[1], declaration[2])
        kinds = [field[1] for field in declaration[3:]]
        self.record_schemes[declaration[1]] = (declaration[2], from_each(kinds, kind))
        for field in declaration[3:]:
            self.field_schemes[field[0]] = (declaration[2], (ARROW, kind, field[1]))

    def tag(self, name):
        return self.tag_schemes[name]

    def field(self, name):
        return self.field_schemes[name]

    def record(self, name):
        return self.record_schemes[name]

    def kind_of(self, name):
        return self.kinds_of_tags[name]

    def tags(self, name):
        return list(self.tags_of_kinds[name])
