"""The machine that goes through a code (25)."""

from facework.errors import Stuck
from facework.runs import Calls, block_of, number_of, reckoned, taken_off

# A value is a whole number, a block, which is a tuple of its number and its values, or a Closed.


class Closed:

    def __init__(self, to, kept):
        self.to = to
        # The locals that its frames begin with.
        self.kept = kept


class Frame:

    def __init__(self, own, behind):
        # Its locals, and the row behind its call.
        self.own = own
        self.behind = behind


class Machine:

    def __init__(self, most):
        self.calls = Calls(most)
        self.pile = []
        self.frame = Frame([], 0)
        # The frames of the calls under way, but for the one at hand.
        self.outer_frames = []
        self.stored = []
        # The row that comes next; None where the run ends.
        self.ahead = 0


def do_number(machine, row):
    machine.pile.append(row[1])


def do_local(machine, row):
    machine.pile.append(machine.frame.own[row[1]])


def do_global(machine, row):
    machine.pile.append(machine.stored[row[1]])


def do_keep(machine, row):
    machine.frame.own.append(machine.pile.pop())


def do_drop(machine, row):
    for place in range(row[1]):
        machine.frame.own.pop()


def do_store(machine, row):
    machine.stored.append(machine.pile.pop())


def do_reckon(machine, row):
    numbers = taken_off(machine.pile, 2)
    machine.pile.append(reckoned(row[0], numbers[0], numbers[1]))


def do_unless(machine, row):
    if number_of(machine.pile.pop()) == 0:
        machine.ahead = row[1]


def do_jump(machine, row):
    machine.ahead = row[1]


def locals_at(machine, places):
    return [machine.frame.own[place] for place in places]


def do_close(machine, row):
    machine.pile.append(Closed(row[1], locals_at(machine, row[2])))


def do_ring(machine, row):
    made = [Closed(told[0], []) for told in row[1]]
    machine.frame.own.extend(made)
    # Looked for when all are there, so that the functions may keep one another.
    for function, told in zip(made, row[1]):
        function.kept = locals_at(machine, told[1])


def do_call(machine, row):
    values = taken_off(machine.pile, 2)
    function = values[0]
    if not isinstance(function, Closed):
        raise Stuck("a call of no function")
    machine.calls.begin()
    machine.outer_frames.append(machine.frame)
    machine.frame = Frame(function.kept + [values[1]], machine.ahead)
    machine.ahead = function.to


def do_back(machine, row):
    if len(machine.outer_frames) == 0:
        machine.ahead = None
        return
    machine.calls.come_back()
    machine.ahead = machine.frame.behind
    machine.frame = machine.outer_frames.pop()


def do_block(machine, row):
    machine.pile.append((row[1],) + taken_off(machine.pile, row[2]))


def do_field(machine, row):
    block = block_of(machine.pile.pop())
    machine.pile.append(block[row[1] + 1])


def do_case(machine, row):
    block = block_of(machine.pile.pop())
    if not 0 <= block[0] < len(row[1]):
        raise Stuck("a block without a row")
    machine.frame.own.extend(block[1:])
    machine.ahead = row[1][block[0]]


ROWS = {
    "number": do_number,
    "local": do_local,
    "global": do_global,
    "keep": do_keep,
    "drop": do_drop,
    "store": do_store,
    "plus": do_reckon,
    "minus": do_reckon,
    "times": do_reckon,
    "less": do_reckon,
    "unless": do_unless,
    "jump": do_jump,
    "close": do_close,
    "ring": do_ring,
    "call": do_call,
    "back": do_back,
    "block": do_block,
    "field": do_field,
    "case": do_case,
}


def done(code, most=300):
    machine = Machine(most)
    while machine.ahead is not None:
        row = code[machine.ahead]
        machine.ahead = machine.ahead + 1
        ROWS[row[0]](machine, row)
    return number_of(machine.pile.pop())
