"""G PAPERS: SHIFTS that show that G is no less, CLOSED WAYS that show that it is no more."""

from math import gcd

from evenwheels.closed import is_closed, length, simple_ways
from evenwheels.errors import BadPaper
from evenwheels.fractions import is_tuple_of
from evenwheels.machines import need_wheel
from evenwheels.shifts import are_shifts, g_of, shifts
from evenwheels.web import has_touch, lot_of


def g_paper(machine, wheel):
    """A G PAPER of a wheel's LOT, of only such SIMPLE ways as lessen what divides those ahead."""
    need_wheel(machine, wheel)
    kept = []
    common = 0
    for way in simple_ways(machine, wheel):
        lessened = gcd(common, length(machine, way))
        if lessened != common:
            kept.append(way)
            common = lessened
    return (shifts(machine, wheel, g_of(machine, wheel)), tuple(kept))


def check_g(machine, wheel, paper):
    """The G that a G PAPER shows; BadPaper of what is none, of anything."""
    need_wheel(machine, wheel)
    if not is_tuple_of(paper, 2):
        raise BadPaper(None)
    told, ways = paper
    if type(told) != tuple or type(ways) != tuple:
        raise BadPaper(None)
    divisor = _divisor_shown(machine, wheel, ways)
    if not are_shifts(machine, wheel, divisor, told):
        raise BadPaper("shifts")
    return divisor


def _divisor_shown(machine, wheel, ways):
    lot = lot_of(machine, wheel)
    common = 0
    for number, way in enumerate(ways):
        if not is_closed(machine, way) or way[0][0] not in lot:
            raise BadPaper(("closed", number))
        common = gcd(common, length(machine, way))
    if len(ways) > 0:
        return common
    if has_touch(machine, lot):
        raise BadPaper(("closed", 0))
    return machine[0][wheel]
