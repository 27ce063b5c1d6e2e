"""OWED and MET: by how much squares get less by EVENING, and by one beat."""

from evenwheels.classes import all_classes, sums_of
from evenwheels.fractions import half, less, over, times, total
from evenwheels.loads import need_load


def owed(machine, load):
    """By how much the squares of all that is held get less by EVENING."""
    need_load(machine, load)
    groups = all_classes(machine)
    held = [times(worth, worth) for row in load for worth in row]
    # EVENED, the squares of a CLASS are its CLASS SUM's square by how many SPOTS it has.
    left = [over(times(worth, worth), (len(members), 1)) for members, worth in zip(groups, sums_of(groups, load))]
    return less(total(held), total(left))


def met(machine, load):
    """Half of the squared differences of the two SPOTS of each TOUCH, together."""
    need_load(machine, load)
    apart = [less(load[wheel][place], load[across][beside]) for (wheel, place), (across, beside) in machine[1]]
    return half(total([times(worth, worth) for worth in apart]))


def first_met(machine, load):
    """The number of the first beat of which MET isn't nought; None of an EVEN LOAD."""
    need_load(machine, load)
    # Till then all only rolls. What hasn't met unlike in as many beats as there are cells never does: it is EVEN.
    for number in range(sum(machine[0])):
        for one, other in machine[1]:
            if _held_then(load, one, number) != _held_then(load, other, number):
                return number
    return None


def _held_then(load, spot, beats):
    # What stands there then, if all only rolls.
    wheel, place = spot
    row = load[wheel]
    return row[(place + beats) % len(row)]
