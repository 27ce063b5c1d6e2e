"""NAMES of wheels and places: those by which one MACHINE is another one, or itself."""

from evenwheels.errors import OutOfPlace
from evenwheels.fractions import is_tuple_of
from evenwheels.machines import is_spot_of, need_machine
from evenwheels.web import across_touches, chains, rolled, ways_by_spot


def are_names(machine, thing):
    """Whether anything is NAMES of a MACHINE."""
    need_machine(machine)
    counts = machine[0]
    if not is_tuple_of(thing, len(counts)):
        return False
    taken = {}
    for count, name in zip(counts, thing):
        # As numbers go, a NUMBER and a TURN are a SPOT where all wheels have this COUNT.
        if not is_spot_of((count,) * len(counts), name) or name[0] in taken:
            return False
        taken[name[0]] = True
    return True


def named(machine, names):
    """The MACHINE NAMED by NAMES."""
    if not are_names(machine, names):
        raise OutOfPlace("no names of this machine")
    return machine_named(machine, names)


def names_between(machine, other):
    """The least NAMES by which the first MACHINE is NAMED the other one; None without."""
    need_machine(machine)
    need_machine(other)
    return least_names(machine, other)


def many_names(machine):
    """By how many NAMES a MACHINE is itself."""
    need_machine(machine)
    sight = _sight_of(machine)
    all_lots = chains(machine)
    many = 1
    for at, lot in enumerate(all_lots):
        # The first LOT goes to any that is alike, the next one to any of these but one: as to those from it on.
        numbers = [wheel for later in all_lots[at:] for wheel in later]
        many *= len(_lots_named(sight, sight, min(lot), numbers))
    return many


def machine_named(machine, names):
    """The MACHINE NAMED, of what are known to be a MACHINE and NAMES of it."""
    counts = [0] * len(machine[0])
    for count, (number, _) in zip(machine[0], names):
        counts[number] = count
    pairs = [tuple(sorted([_spot_named(machine[0], names[spot[0]], spot) for spot in pair])) for pair in machine[1]]
    return (tuple(counts), tuple(sorted(pairs)))


def least_names(machine, other):
    """What names_between tells, of what are known to be MACHINES."""
    if sorted(machine[0]) != sorted(other[0]) or len(machine[1]) != len(other[1]):
        return None
    here = _sight_of(machine)
    there = _sight_of(other)
    told = {}
    left = list(range(len(other[0])))
    for wheel in range(len(machine[0])):
        if wheel not in told:
            # As all LOTS that are alike are so in as many ways, the least NAMES here leave enough for those behind.
            fitting = _lots_named(here, there, wheel, left)
            if len(fitting) == 0:
                return None
            told.update(fitting[0])
            gone = [number for number, _ in fitting[0].values()]
            left = [number for number in left if number not in gone]
    return tuple([told[wheel] for wheel in range(len(machine[0]))])


def code_of(machine):
    """A tuple that two of what are known to be MACHINES have alike just where they are ALIKE."""
    across = across_touches(machine)
    along = {spot: (way[3], rolled(machine, spot, way[3])) for spot, way in ways_by_spot(machine).items()}
    codes = []
    for chain in chains(machine):
        touching = [spot for spot in along if spot[0] in chain]
        if len(touching) > 0:
            codes.append(_least_code(along, across, touching))
        else:
            codes.append(((machine[0][min(chain)], 0, 0),))
    return tuple(sorted(codes))


def _least_code(along, across, touching):
    least = min([along[spot][0] for spot in touching])
    return min([_code_from(along, across, spot) for spot in touching if along[spot][0] == least])


def _code_from(along, across, begin):
    # A LOT as seen from one SPOT of a TOUCH: others are numbered as they come, next along the wheel or across.
    number_of = {begin: 0}
    order = [begin]
    code = []
    while len(code) < len(order):
        here = order[len(code)]
        gap, follows = along[here]
        for beyond in (follows, across[here]):
            if beyond not in number_of:
                number_of[beyond] = len(order)
                order.append(beyond)
        code.append((gap, number_of[follows], number_of[across[here]]))
    return tuple(code)


def _sight_of(machine):
    # COUNTS, the other SPOT of each one of a TOUCH, and those of each wheel.
    across = across_touches(machine)
    touching = [[] for _ in machine[0]]
    for spot in across:
        touching[spot[0]].append(spot)
    return (machine[0], across, touching)


def _spot_named(counts, name, spot):
    number, turn = name
    return (number, (spot[1] + turn) % counts[spot[0]])


def _lots_named(here, there, wheel, numbers):
    # All NAMES of a wheel's LOT by which it is one there, rising by the wheel's own, which has one of these numbers.
    found = []
    for number in numbers:
        if there[0][number] == here[0][wheel]:
            for turn in range(here[0][wheel]):
                names = _lot_named(here, there, wheel, (number, turn))
                if names is not None:
                    found.append(names)
    return found


def _lot_named(here, there, wheel, name):
    # NAMES of a wheel's LOT, a dict, where the wheel itself has this one; None where there are none.
    told = {wheel: name}
    numbers = {name[0]: True}
    latest = [wheel]
    while len(latest) > 0:
        found = []
        for member in latest:
            if not _are_alike_alone(here, there, member, told[member][0]):
                return None
            named_across = _names_across(here, there, member, told[member])
            for beyond, follows in named_across:
                if follows is None:
                    return None
                if beyond not in told and follows[0] not in numbers:
                    told[beyond] = follows
                    numbers[follows[0]] = True
                    found.append(beyond)
                elif told.get(beyond) != follows:
                    return None
        latest = found
    return told


def _are_alike_alone(here, there, wheel, number):
    return here[0][wheel] == there[0][number] and len(here[2][wheel]) == len(there[2][number])


def _names_across(here, there, wheel, name):
    # Whom the wheel touches, and its NAME then; None where there is no TOUCH there.
    counts, across, touching = here
    found = []
    for spot in touching[wheel]:
        beyond, place = across[spot]
        goal = there[1].get(_spot_named(counts, name, spot))
        if goal is None:
            found.append((beyond, None))
        else:
            found.append((beyond, (goal[0], (goal[1] - place) % counts[beyond])))
    return found
