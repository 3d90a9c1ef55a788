"""Programs run as they stand (23, 24)."""

from facework.forms import items_of, made_parts
from facework.papers import with_names
from facework.runs import Calls, number_of
from facework.working import Worker, worked_out


def vals_of(worker, body, names):
    told = {}
    for val in items_of(body, "val"):
        told[val[1]] = worked_out(worker, val[2], names)
        names = with_names(names, [val[1]], [told[val[1]]])
    return told


def work_out_parts(worker, parts):
    for name, body, givers in parts:
        worker.part_vals[name] = vals_of(worker, body, givers)


def run(program, most=300):
    worker = Worker(program, Calls(most))
    work_out_parts(worker, made_parts(program))
    return number_of(worked_out(worker, program[-1][1], {}))
