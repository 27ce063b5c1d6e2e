"""The WEB: LOTS of wheels that hang together, and the WAYS from TOUCH to TOUCH."""

from evenwheels.errors import NoTouch
from evenwheels.fractions import half, plus
from evenwheels.loads import need_beats, need_load
from evenwheels.machines import need_machine, need_spot, need_touch, need_wheel


def lots(machine):
    """A tuple of all LOTS, rising tuples of wheels, by their first wheels."""
    need_machine(machine)
    return tuple([tuple(sorted(chain)) for chain in chains(machine)])


def lot_of(machine, wheel):
    """The LOT that has a wheel."""
    need_wheel(machine, wheel)
    return tuple(sorted(chain_from(machine, wheel)))


def has_touch(machine, lot):
    """Whether a LOT has a TOUCH."""
    return any([pair[0][0] in lot for pair in machine[1]])


def web(machine):
    """A tuple of all WAYS, rising."""
    need_machine(machine)
    ways = ways_by_spot(machine)
    return tuple(sorted(ways.values()))


def way_from(machine, spot):
    """The WAY that leaves a SPOT of a TOUCH."""
    need_spot(machine, spot)
    ways = ways_by_spot(machine)
    if spot not in ways:
        raise NoTouch("a spot of no touch")
    return ways[spot]


def ways_to(machine, touch):
    """The two WAYS that come to a TOUCH, rising."""
    need_touch(machine, touch)
    return tuple([way for way in web(machine) if way[2] == touch])


def web_readings(machine, load, beats):
    """What is read at beats 0 to beats - 1, a list, told by WAYS alone."""
    need_load(machine, load)
    need_beats(beats)
    pairs = [ways_to(machine, touch) for touch in range(len(machine[1]))]
    told = []
    for _ in range(beats):
        now = [half(plus(_what_comes(load, told, one), _what_comes(load, told, other))) for one, other in pairs]
        told.append(tuple(now))
    return told


def ways_by_spot(machine):
    """A dict of the WAY that leaves each SPOT of a TOUCH of what is known to be a MACHINE."""
    touch_at = {spot: number for number, pair in enumerate(machine[1]) for spot in pair}
    ways = {}
    for spot in touch_at:
        gap = _gap_from(machine, touch_at, spot)
        ways[spot] = (touch_at[spot], spot, touch_at[rolled(machine, spot, gap)], gap)
    return ways


def rolled(machine, spot, beats):
    """The SPOT to which what stands at one only rolls in so many beats; below 0, so many back."""
    wheel, place = spot
    return (wheel, (place - beats) % machine[0][wheel])


def across_touches(machine):
    """A dict of the other SPOT of the same TOUCH, of each SPOT of one, of what is known to be a MACHINE."""
    found = {}
    for one, other in machine[1]:
        found[one] = other
        found[other] = one
    return found


def chains(machine):
    """For each LOT, in order, what chain_from tells of its first wheel, of what is known to be a MACHINE."""
    beside = _turns_beside(machine)
    known = {}
    found = []
    for wheel in beside:
        if wheel not in known:
            chain = _chained(beside, wheel)
            for member in chain:
                known[member] = True
            found.append(chain)
    return found


def chain_from(machine, wheel):
    """A dict of how far each wheel of a LOT is turned, by a chain of TOUCHES from the told one, of a known MACHINE."""
    return _chained(_turns_beside(machine), wheel)


def _turns_beside(machine):
    # For each wheel, those that it touches, and how much further they are turned by that TOUCH.
    beside = {wheel: [] for wheel in range(len(machine[0]))}
    for (wheel, place), (across, other) in machine[1]:
        beside[wheel].append((across, place - other))
        beside[across].append((wheel, other - place))
    return beside


def _chained(beside, wheel):
    chain = {wheel: 0}
    latest = [wheel]
    while len(latest) > 0:
        found = []
        for here in latest:
            for there, further in beside[here]:
                if there not in chain:
                    chain[there] = chain[here] + further
                    found.append(there)
        latest = found
    return chain


def _gap_from(machine, touch_at, spot):
    gap = 1
    while rolled(machine, spot, gap) not in touch_at:
        gap += 1
    return gap


def _what_comes(load, told, way):
    touch, (wheel, place), _, gap = way
    at = len(told)
    if gap <= at:
        return told[at - gap][touch]
    # Not yet met: it stood at first so many places on from where it comes now.
    row = load[wheel]
    return row[(place - gap + at) % len(row)]
