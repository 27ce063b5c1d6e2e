"""CLASSES: SPOTS that SHIFTS modulo G tell alike, and what each holds together."""

from evenwheels.fractions import total
from evenwheels.loads import need_load
from evenwheels.machines import need_machine, need_spot
from evenwheels.shifts import wheels_told


def class_of(machine, spot):
    """The CLASS of a SPOT: the pair (LOT, NUMBER)."""
    need_spot(machine, spot)
    wheel, place = spot
    lot, shift, greatest = wheels_told(machine)[wheel]
    return (lot, (shift + place) % greatest)


def classes(machine):
    """A tuple of all CLASSES, rising, each a rising tuple of its SPOTS."""
    need_machine(machine)
    return all_classes(machine)


def class_sums(machine, load):
    """A tuple of what each CLASS holds together, in their order."""
    need_load(machine, load)
    return sums_of(all_classes(machine), load)


def all_classes(machine):
    """What classes tells, of what is known to be a MACHINE."""
    members = {}
    for wheel, (lot, shift, greatest) in enumerate(wheels_told(machine)):
        for place in range(machine[0][wheel]):
            members.setdefault((lot, (shift + place) % greatest), []).append((wheel, place))
    return tuple([tuple(members[name]) for name in sorted(members)])


def sums_of(groups, load):
    """A tuple of what each group of SPOTS holds together, of what is known to be a LOAD."""
    return tuple([total([load[wheel][place] for wheel, place in members]) for members in groups])
