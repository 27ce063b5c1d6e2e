"""TOUCHES that could be spared: BRIDGES, NEEDLESS ones, LEAN MACHINES, and the CORE."""

from evenwheels.machines import all_numbers_below, need_machine, need_touch
from evenwheels.more import without_touch
from evenwheels.shifts import are_of_one_class, wheels_told


def is_bridge(machine, touch):
    """Whether a TOUCH, LIFTED, leaves two LOTS of its LOT."""
    need_touch(machine, touch)
    return len(_parts(machine, touch)) == 2


def is_needless(machine, touch):
    """Whether a TOUCH, LIFTED, is IDLE."""
    need_touch(machine, touch)
    return _is_needless(machine, touch)


def parts(machine, touch):
    """The G's of what the LOT of a TOUCH is with it LIFTED, by their first wheels."""
    need_touch(machine, touch)
    return tuple([greatest for _, greatest in _parts(machine, touch)])


def is_lean(machine):
    """Whether no TOUCH is NEEDLESS."""
    need_machine(machine)
    return _last_needless(machine) is None


def lean(machine):
    """The LEAN MACHINE that is left where each time the last NEEDLESS TOUCH is LIFTED."""
    need_machine(machine)
    left = machine
    touch = _last_needless(left)
    while touch is not None:
        left = without_touch(left, touch)
        touch = _last_needless(left)
    return left


def core(machine):
    """The numbers of the fewest TOUCHES that leave LOTS and G's as they are, of several the first."""
    need_machine(machine)
    counts, touches = machine
    wanted = _lots_and_gs(machine)
    # All TOUCHES together leave all as it is, so there is a first tuple that does.
    for numbers in all_numbers_below(len(touches)):
        if _lots_and_gs((counts, tuple([touches[number] for number in numbers]))) == wanted:
            return numbers


def _parts(machine, touch):
    # Pairs of a LOT's number and its G, rising: one or two.
    told = wheels_told(without_touch(machine, touch))
    found = [(told[wheel][0], told[wheel][2]) for wheel, _ in machine[1][touch]]
    return sorted(set(found))


def _is_needless(machine, touch):
    one, other = machine[1][touch]
    return are_of_one_class(wheels_told(without_touch(machine, touch)), one, other)


def _last_needless(machine):
    for touch in reversed(range(len(machine[1]))):
        if _is_needless(machine, touch):
            return touch
    return None


def _lots_and_gs(machine):
    return [(number, greatest) for number, _, greatest in wheels_told(machine)]
