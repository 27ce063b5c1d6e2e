"""SHIFTS: numbers for the wheels of a LOT by which both SPOTS of each TOUCH are alike, and the greatest G."""

from math import gcd

from evenwheels.errors import OutOfPlace
from evenwheels.fractions import is_tuple_of, is_whole
from evenwheels.machines import need_spot, need_wheel
from evenwheels.web import lot_of


def need_modulo(thing):
    """None, or OutOfPlace of what is no whole number from 1 on; of anything."""
    if not is_whole(thing) or thing < 1:
        raise OutOfPlace("no whole number from 1 on")


def shifts(machine, wheel, modulo):
    """SHIFTS of a wheel's LOT, a tuple, or None without."""
    need_wheel(machine, wheel)
    need_modulo(modulo)
    if g_of(machine, wheel) % modulo != 0:
        return None
    lot = lot_of(machine, wheel)
    chained = _chained(machine, lot)
    return tuple([chained[member] % modulo for member in lot])


def are_shifts(machine, wheel, modulo, thing):
    """Whether anything is SHIFTS of a wheel's LOT; looked at as it stands, with no search."""
    need_wheel(machine, wheel)
    need_modulo(modulo)
    lot = lot_of(machine, wheel)
    if not is_tuple_of(thing, len(lot)):
        return False
    for member, shift in zip(lot, thing):
        if not is_whole(shift) or not 0 <= shift < modulo or machine[0][member] % modulo != 0:
            return False
    told = {member: shift for member, shift in zip(lot, thing)}
    return thing[0] == 0 and all([left % modulo == 0 for left in _left_at_touches(machine, told)])


def g_of(machine, wheel):
    """G of a wheel's LOT: the greatest number modulo which it has SHIFTS."""
    need_wheel(machine, wheel)
    lot = lot_of(machine, wheel)
    greatest = 0
    for member in lot:
        greatest = gcd(greatest, machine[0][member])
    for left in _left_at_touches(machine, _chained(machine, lot)):
        greatest = gcd(greatest, left)
    return greatest


def miss(machine, spot, other):
    """The MISS of two SPOTS of one LOT."""
    need_spot(machine, spot)
    need_spot(machine, other)
    lot = lot_of(machine, spot[0])
    if other[0] not in lot:
        raise OutOfPlace("spots of two lots")
    chained = _chained(machine, lot)
    return (chained[spot[0]] + spot[1] - chained[other[0]] - other[1]) % g_of(machine, spot[0])


def _chained(machine, lot):
    # Along a chain of TOUCHES from the first wheel, before anything is taken modulo a number.
    told = {lot[0]: 0}
    for _ in lot:
        for one, other in machine[1]:
            if one[0] in told and other[0] not in told:
                told[other[0]] = told[one[0]] + one[1] - other[1]
            elif other[0] in told and one[0] not in told:
                told[one[0]] = told[other[0]] + other[1] - one[1]
    return told


def _left_at_touches(machine, told):
    return [told[one[0]] + one[1] - told[other[0]] - other[1] for one, other in machine[1] if one[0] in told]
