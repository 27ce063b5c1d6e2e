"""OWED and MET: by how much squares get less by EVENING, and by one beat."""

from evenwheels.ends import evened
from evenwheels.fractions import half, is_nought, less, times, total
from evenwheels.loads import beat, need_load, squares
from evenwheels.machines import cells


def owed(machine, load):
    """By how much the squares of all that is held get less by EVENING."""
    need_load(machine, load)
    return less(squares(machine, load), squares(machine, evened(machine, load)))


def met(machine, load):
    """Half of the squared differences of the two SPOTS of each TOUCH, together."""
    need_load(machine, load)
    apart = [less(load[wheel][place], load[across][beside]) for (wheel, place), (across, beside) in machine[1]]
    return half(total([times(worth, worth) for worth in apart]))


def first_met(machine, load):
    """The number of the first beat of which MET isn't nought; None of an EVEN LOAD."""
    need_load(machine, load)
    now = load
    # What hasn't met unlike in as many beats as there are cells never does: it is EVEN.
    for number in range(cells(machine)):
        if not is_nought(met(machine, now)):
            return number
        now = beat(machine, now)
    return None
