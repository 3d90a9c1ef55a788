"""The kinds, records and names that the tests of finding and looking ask with."""

from facework.reading import read
from facework.sorts import Sorts
from helping import part_of

PROGRAM = read(
    "(kind list (?a) (Nil) (Cons ?a (list ?a)))"
    "(kind bit () (Off) (On))"
    "(kind six (?a ?b) (Sa) (Sb ?a) (Sc ?b) (Sd num) (Se (six ?a ?b)) (Sf ?a ?b ?a (-> ?a ?b)))"
    "(kind box (?a) (Box ?a))"
    "(kind odd (?a ?b) (Odd num))"
    "(record pair (?a ?b) (one ?a) (two ?b))"
    "(record spot () (left num) (right num))"
    "(record act (?a) (go (-> ?a ?a)))"
    "(main 0)"
)
SORTS = Sorts(PROGRAM)


def scheme(own, kind):
    return (tuple(own.split()), part_of(kind))


NAMES = {
    # Without variables; with given ones; with some that are not given; and paths.
    "n": scheme("", "num"),
    "inc": scheme("", "(-> num num)"),
    "id": scheme("?a", "(-> ?a ?a)"),
    "two": scheme("?a ?b", "(-> ?b (-> ?a ?b))"),
    "v": scheme("", "?a"),
    "w": scheme("", "(-> ?a ?b)"),
    "mix": scheme("?c", "(-> ?c (-> ?a ?c))"),
    "more": scheme("?a ?b", "(-> ?a ?a)"),
    "P.t": scheme("", "Q.u"),
    "P.get": scheme("?a", "(-> (Q.s ?a) (list ?a))"),
}
