"""SHIFTS: numbers for the wheels of a LOT by which both SPOTS of each TOUCH are alike, and the greatest G."""

from math import gcd

from evenwheels.errors import OutOfPlace
from evenwheels.fractions import is_tuple_of, is_whole
from evenwheels.machines import need_machine, need_spot_on, need_wheel
from evenwheels.web import chain_from, chains


def need_modulo(thing):
    """None, or OutOfPlace of what is no whole number from 1 on; of anything."""
    if not is_whole(thing) or thing < 1:
        raise OutOfPlace("no whole number from 1 on")


def shifts(machine, wheel, modulo):
    """SHIFTS of a wheel's LOT, a tuple, or None without."""
    need_wheel(machine, wheel)
    need_modulo(modulo)
    chain = chain_from(machine, wheel)
    if _greatest(machine, chain) % modulo != 0:
        return None
    return _shifts_by(chain, modulo)


def are_shifts(machine, wheel, modulo, thing):
    """Whether anything is SHIFTS of a wheel's LOT; looked at as it stands, with no search."""
    need_wheel(machine, wheel)
    need_modulo(modulo)
    return fit_as_shifts(machine, sorted(chain_from(machine, wheel)), modulo, thing)


def g_of(machine, wheel):
    """G of a wheel's LOT: the greatest number modulo which it has SHIFTS."""
    need_wheel(machine, wheel)
    return _greatest(machine, chain_from(machine, wheel))


def miss(machine, spot, other):
    """The MISS of two SPOTS of one LOT."""
    need_machine(machine)
    need_spot_on(machine[0], spot)
    need_spot_on(machine[0], other)
    chain = chain_from(machine, spot[0])
    if other[0] not in chain:
        raise OutOfPlace("spots of two lots")
    return (spot[1] - chain[other[0]] - other[1]) % _greatest(machine, chain)


def fit_as_shifts(machine, lot, modulo, thing):
    """Whether anything is SHIFTS modulo a number of what are known to be a MACHINE and a LOT of it, rising."""
    if not is_tuple_of(thing, len(lot)):
        return False
    for member, shift in zip(lot, thing):
        if not is_whole(shift) or not 0 <= shift < modulo or machine[0][member] % modulo != 0:
            return False
    told = {member: shift for member, shift in zip(lot, thing)}
    return thing[0] == 0 and all([left % modulo == 0 for left in _left_at_touches(machine, told)])


def wheels_told(machine):
    """For each wheel the number of its LOT, its SHIFT modulo G, and G, in a list, of what is known to be a MACHINE."""
    told = [None] * len(machine[0])
    for number, chain in enumerate(chains(machine)):
        greatest = _greatest(machine, chain)
        for wheel, turn in chain.items():
            told[wheel] = (number, turn % greatest, greatest)
    return told


def are_of_one_class(told, spot, other):
    """Whether two SPOTS are of one LOT and their MISS is 0, by what wheels_told tells."""
    lot, shift, greatest = told[spot[0]]
    across, beside, _ = told[other[0]]
    return lot == across and (shift + spot[1] - beside - other[1]) % greatest == 0


def _greatest(machine, chain):
    greatest = 0
    for wheel in chain:
        greatest = gcd(greatest, machine[0][wheel])
    for left in _left_at_touches(machine, chain):
        greatest = gcd(greatest, left)
    return greatest


def _shifts_by(chain, modulo):
    # The chain may be told from any wheel of the LOT; the first one's SHIFT is 0.
    lot = sorted(chain)
    return tuple([(chain[member] - chain[lot[0]]) % modulo for member in lot])


def _left_at_touches(machine, told):
    return [told[one[0]] + one[1] - told[other[0]] - other[1] for one, other in machine[1] if one[0] in told]
