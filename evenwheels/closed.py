"""CLOSED WAYS: rounds along WAYS that come back to the TOUCH where they began."""

from evenwheels.errors import OutOfPlace
from evenwheels.machines import is_spot_of, need_machine
from evenwheels.web import lot_of, ways_by_spot


def is_closed(machine, thing):
    """Whether anything is a CLOSED WAY."""
    need_machine(machine)
    if type(thing) != tuple or len(thing) == 0:
        return False
    ways = ways_by_spot(machine)
    for spot in thing:
        if not is_spot_of(machine[0], spot) or spot not in ways:
            return False
    followers = thing[1:] + thing[:1]
    return all([ways[spot][2] == ways[follower][0] for spot, follower in zip(thing, followers)])


def length(machine, way):
    """The LENGTH of a CLOSED WAY: all its GAPS together."""
    if not is_closed(machine, way):
        raise OutOfPlace("no closed way")
    ways = ways_by_spot(machine)
    return sum([ways[spot][3] for spot in way])


def simple_ways(machine, wheel):
    """A rising list of all SIMPLE CLOSED WAYS of a wheel's LOT, each from its least SPOT on."""
    lot = lot_of(machine, wheel)
    ways = ways_by_spot(machine)
    found = []
    for spot in ways:
        if spot[0] in lot:
            found.extend(_closed_behind(machine, ways, (spot,)))
    return sorted(found)


def _closed_behind(machine, ways, begun):
    # All that go on from what is begun, by SPOTS above the first one and TOUCHES not gone through.
    goal = ways[begun[-1]][2]
    gone = [ways[spot][0] for spot in begun]
    if goal == gone[0]:
        return [begun]
    if goal in gone:
        return []
    found = []
    for spot in machine[1][goal]:
        if spot > begun[0]:
            found.extend(_closed_behind(machine, ways, begun + (spot,)))
    return found
