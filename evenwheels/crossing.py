"""MACHINES CROSSED OVER: what rolls on from either SPOT of some TOUCHES goes where the other one's goes."""

from evenwheels.errors import OutOfPlace, TooGreat
from evenwheels.loads import need_load
from evenwheels.machines import MOST_WHEELS, are_numbers_below, need_machine, spots
from evenwheels.web import rolled


def crossed(machine, touches):
    """The MACHINE CROSSED OVER at some TOUCHES."""
    return machine_of_rounds(machine, need_rounds(machine, touches))


def places_crossed(machine, touches):
    """PLACES: a dict of the new SPOT of each old one, old ones rising."""
    places = _places(need_rounds(machine, touches))
    return {spot: places[spot] for spot in spots(machine)}


def load_crossed(machine, load, touches):
    """The LOAD that goes along by PLACES."""
    need_load(machine, load)
    return tuple([tuple([load[wheel][place] for wheel, place in gone]) for gone in need_rounds(machine, touches)])


def need_rounds(machine, touches):
    """What rounds tells, or OutOfPlace of no rising tuple of numbers of TOUCHES, or TooGreat; of anything."""
    need_machine(machine)
    if not are_numbers_below(len(machine[1]), touches):
        raise OutOfPlace("no rising tuple of numbers of touches")
    found = rounds(machine, touches)
    if len(found) > MOST_WHEELS:
        raise TooGreat("more than sixteen wheels")
    return found


def rounds(machine, touches):
    """For each wheel CROSSED OVER a list of its old SPOTS, place by place, of what are known to be such."""
    behind = {}
    for wheel, count in enumerate(machine[0]):
        for place in range(count):
            behind[(wheel, place)] = (wheel, (place + 1) % count)
    for touch in touches:
        one, other = machine[1][touch]
        behind[rolled(machine, one, 1)] = other
        behind[rolled(machine, other, 1)] = one
    known = {}
    found = []
    for spot in behind:
        if spot not in known:
            gone = _round_from(behind, spot)
            for old in gone:
                known[old] = True
            found.append(gone)
    return found


def machine_of_rounds(machine, found):
    """The MACHINE that has these rounds as its wheels."""
    places = _places(found)
    pairs = [tuple(sorted([places[one], places[other]])) for one, other in machine[1]]
    return (tuple([len(gone) for gone in found]), tuple(sorted(pairs)))


def _round_from(behind, spot):
    gone = [spot]
    here = behind[spot]
    while here != spot:
        gone.append(here)
        here = behind[here]
    return gone


def _places(found):
    return {old: (wheel, place) for wheel, gone in enumerate(found) for place, old in enumerate(gone)}
