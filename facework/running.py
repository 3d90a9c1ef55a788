"""Programs run as they stand (23, 24)."""

from facework.bounds import Calls, number_of
from facework.faces import by_givers
from facework.forms import body_of, items_of
from facework.papers import with_names
from facework.working import Worker, worked_out


def vals_of(worker, body, names):
    told = {}
    for val in items_of(body, "val"):
        told[val[1]] = worked_out(worker, val[2], names)
        names = with_names(names, [val[1]], [told[val[1]]])
    return told


def go_through(worker, declaration):
    if declaration[0] == "part":
        worker.part_vals[declaration[1]] = vals_of(worker, body_of(declaration), {})
    elif declaration[0] == "apply":
        maker = worker.makers[declaration[2]]
        parts = by_givers(maker[2], declaration[3:])
        worker.part_vals[declaration[1]] = vals_of(worker, body_of(maker), parts)


def run(program, most=300):
    worker = Worker(program, Calls(most))
    for declaration in program[:-1]:
        go_through(worker, declaration)
    return number_of(worked_out(worker, program[-1][1], {}))
