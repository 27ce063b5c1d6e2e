"""One TOUCH more: FREE SPOTS, what a pair PUT ON does to G and to how many classes there are, and TOUCHES LIFTED."""

from math import gcd

from evenwheels.closed import simple_ways
from evenwheels.errors import BadSpot, Never, OutOfPlace, TooGreat
from evenwheels.machines import MOST_TOUCHES, is_spot_of, need_machine, need_touch, spots
from evenwheels.shifts import are_of_one_class, wheels_told
from evenwheels.web import across_touches, ways_by_spot


def free_spots(machine):
    """A rising tuple of the SPOTS of no TOUCH."""
    need_machine(machine)
    return tuple(_free(machine))


def put_on(machine, spot, other):
    """The MACHINE with a FREE PAIR PUT ON."""
    need_free_pair(machine, spot, other)
    need_room(machine)
    return with_pair(machine, spot, other)


def lifted(machine, touch):
    """The MACHINE with a TOUCH LIFTED."""
    need_touch(machine, touch)
    return without_touch(machine, touch)


def g_with(machine, spot, other):
    """G, with the pair PUT ON, of the LOT that has it."""
    need_free_pair(machine, spot, other)
    return _g_joined(wheels_told(machine), spot, other)


def is_idle(machine, spot, other):
    """Whether a FREE PAIR is IDLE."""
    need_free_pair(machine, spot, other)
    return are_of_one_class(wheels_told(machine), spot, other)


def idle_pairs(machine):
    """A rising list of all IDLE pairs."""
    need_machine(machine)
    told = wheels_told(machine)
    return [(spot, other) for spot, other in _free_pairs(machine) if are_of_one_class(told, spot, other)]


def how_many_classes(machine):
    """How many classes there are: all G's together."""
    need_machine(machine)
    return _all_together(wheels_told(machine))


def best_pairs(machine):
    """The fewest classes that a FREE PAIR, PUT ON, leaves, and a rising tuple of the pairs that do."""
    need_machine(machine)
    told = wheels_told(machine)
    pairs = _free_pairs(machine)
    if len(pairs) == 0:
        raise Never("less than two free spots")
    fewer = [_classes_fewer(told, spot, other) for spot, other in pairs]
    most = max(fewer)
    return (_all_together(told) - most, tuple([pair for pair, many in zip(pairs, fewer) if many == most]))


def witness(machine, spot, other):
    """A CLOSED WAY of the MACHINE with the pair PUT ON, whose LENGTH G without it doesn't divide."""
    need_free_pair(machine, spot, other)
    need_room(machine)
    told = wheels_told(machine)
    lot, _, greatest = told[spot[0]]
    if told[other[0]][0] != lot:
        raise OutOfPlace("spots of two lots")
    more = with_pair(machine, spot, other)
    ways = ways_by_spot(more)
    for way in simple_ways(more, spot[0]):
        if sum([ways[at][3] for at in way]) % greatest != 0:
            return way
    raise Never("an idle pair")


def need_free_pair(machine, spot, other):
    """None, or BadSpot(0) or BadSpot(1) of what are no two unlike FREE SPOTS; of anything."""
    need_machine(machine)
    across = across_touches(machine)
    if not is_spot_of(machine[0], spot) or spot in across:
        raise BadSpot(0)
    if not is_spot_of(machine[0], other) or other in across or other == spot:
        raise BadSpot(1)


def need_room(machine):
    """None, or TooGreat of what is known to be a MACHINE, of as many TOUCHES as one can have."""
    if len(machine[1]) == MOST_TOUCHES:
        raise TooGreat("a machine has eight touches at most")


def with_pair(machine, spot, other):
    """What has the pair, too, of what are known to be a MACHINE and two FREE SPOTS."""
    pair = (min(spot, other), max(spot, other))
    return (machine[0], tuple(sorted(machine[1] + (pair,))))


def without_touch(machine, touch):
    """What has all TOUCHES but one, of what are known to be a MACHINE and a number of a TOUCH."""
    return (machine[0], machine[1][:touch] + machine[1][touch + 1:])


def _free(machine):
    across = across_touches(machine)
    return [spot for spot in spots(machine) if spot not in across]


def _free_pairs(machine):
    free = _free(machine)
    return [(spot, other) for at, spot in enumerate(free) for other in free[at + 1:]]


def _g_joined(told, spot, other):
    lot, turn, greatest = told[spot[0]]
    across, turned, beside = told[other[0]]
    if lot == across:
        return gcd(greatest, turn + spot[1] - turned - other[1])
    return gcd(greatest, beside)


def _classes_fewer(told, spot, other):
    # By how many classes fewer there are with the pair PUT ON.
    lot, _, greatest = told[spot[0]]
    across, _, beside = told[other[0]]
    joined = _g_joined(told, spot, other)
    if lot == across:
        return greatest - joined
    return greatest + beside - joined


def _all_together(told):
    by_lot = {number: greatest for number, _, greatest in told}
    return sum(list(by_lot.values()))
