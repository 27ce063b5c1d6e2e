"""CLASSES: SPOTS that SHIFTS modulo G tell alike, and what each holds together."""

from evenwheels.fractions import total
from evenwheels.loads import need_load
from evenwheels.machines import need_machine, need_spot, spots
from evenwheels.shifts import g_of, shifts
from evenwheels.web import lots


def class_of(machine, spot):
    """The CLASS of a SPOT: the pair (LOT, NUMBER)."""
    need_spot(machine, spot)
    return class_by_spot(machine)[spot]


def classes(machine):
    """A tuple of all CLASSES, rising, each a rising tuple of its SPOTS."""
    need_machine(machine)
    members = {}
    class_at = class_by_spot(machine)
    for spot in spots(machine):
        members.setdefault(class_at[spot], []).append(spot)
    return tuple([tuple(members[name]) for name in sorted(members)])


def class_sums(machine, load):
    """A tuple of what each CLASS holds together, in their order."""
    need_load(machine, load)
    return tuple([total([load[wheel][place] for wheel, place in members]) for members in classes(machine)])


def class_by_spot(machine):
    """A dict of the CLASS of each SPOT of what is known to be a MACHINE."""
    found = {}
    for number, lot in enumerate(lots(machine)):
        greatest = g_of(machine, lot[0])
        for wheel, shift in zip(lot, shifts(machine, lot[0], greatest)):
            for place in range(machine[0][wheel]):
                found[(wheel, place)] = (number, (shift + place) % greatest)
    return found
