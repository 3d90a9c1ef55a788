"""Taken programs made into code, in which no kinds, faces or makers are left (26)."""

from facework.forms import items_of, made_parts
from facework.papers import with_names
from facework.rowing import Coder, Scope, lay_phrase


def lay_vals(coder, body, outer):
    # Told is of each val which global it is.
    told = {}
    for val in items_of(body, "val"):
        lay_phrase(coder, val[2], Scope(outer, {}, 0))
        coder.rows.append(("store",))
        told[val[1]] = coder.stored
        outer = with_names(outer, [val[1]], [coder.stored])
        coder.stored = coder.stored + 1
    return told


def paths_of(name, places):
    return dict([(f"{name}.{val}", places[val]) for val in places])


def lay_parts(coder, program):
    # Told is of each path which global it is.
    vals = {}
    paths = {}
    for name, body, givers in made_parts(program):
        outer = dict(paths)
        # Behind the paths: a part may be called like a giver of a maker that stands ahead of it.
        for giver in givers:
            outer.update(paths_of(giver, vals[givers[giver]]))
        vals[name] = lay_vals(coder, body, outer)
        paths.update(paths_of(name, vals[name]))
    return paths


def lay_functions(coder):
    # The functions within a function come behind those that are waiting.
    while len(coder.functions) > 0:
        function = coder.functions.pop(0)
        coder.mark_places[function[0]] = len(coder.rows)
        lay_phrase(coder, function[1], function[2])
        coder.rows.append(("back",))


def with_places(row, places):
    # The row with the numbers of rows in the place of marks.
    if row[0] in ("jump", "unless", "close"):
        return row[:1] + (places[row[1]],) + row[2:]
    if row[0] == "ring":
        return ("ring", tuple([(places[told[0]], told[1]) for told in row[1]]))
    if row[0] == "case":
        return ("case", tuple([places[mark] for mark in row[1]]))
    return row


def coded(program):
    coder = Coder(program)
    paths = lay_parts(coder, program)
    lay_phrase(coder, program[-1][1], Scope(paths, {}, 0))
    coder.rows.append(("back",))
    lay_functions(coder)
    return tuple([with_places(row, coder.mark_places) for row in coder.rows])
