"""MACHINES: wheels of told COUNTS of places, and the TOUCHES between their SPOTS."""

from itertools import combinations

from evenwheels.errors import BadMachine, BadSpot, NoTouch, OutOfPlace
from evenwheels.fractions import is_tuple_of, is_whole

MOST_WHEELS = 16
MOST_CELLS = 30
MOST_TOUCHES = 8


def are_counts(thing):
    """Whether anything is a tuple of COUNTS."""
    if type(thing) != tuple or not 1 <= len(thing) <= MOST_WHEELS:
        return False
    for count in thing:
        if not is_whole(count) or count < 1:
            return False
    return sum(thing) <= MOST_CELLS


def is_spot_of(counts, thing):
    """Whether anything is a SPOT on wheels of these COUNTS."""
    if not is_tuple_of(thing, 2):
        return False
    wheel, place = thing
    if not is_whole(wheel) or not is_whole(place):
        return False
    return 0 <= wheel < len(counts) and 0 <= place < counts[wheel]


def is_pair_of(counts, thing):
    """Whether anything is a pair of SPOTS on wheels of these COUNTS."""
    return is_tuple_of(thing, 2) and is_spot_of(counts, thing[0]) and is_spot_of(counts, thing[1])


def are_numbers_below(many, thing):
    """Whether anything is a rising tuple of whole numbers from 0 on, below many."""
    if type(thing) != tuple:
        return False
    for at, number in enumerate(thing):
        if not is_whole(number) or not 0 <= number < many:
            return False
        if at > 0 and number <= thing[at - 1]:
            return False
    return True


def need_touches(counts, touches):
    """None, or BadMachine of the first of at most eight things that is no TOUCH here."""
    taken = {}
    for number, pair in enumerate(touches):
        if not is_pair_of(counts, pair) or pair[0] >= pair[1]:
            raise BadMachine(number)
        if number > 0 and pair <= touches[number - 1]:
            raise BadMachine(number)
        if pair[0] in taken or pair[1] in taken:
            raise BadMachine(number)
        taken[pair[0]] = True
        taken[pair[1]] = True


def need_machine(thing):
    """None, or BadMachine of what is no MACHINE; of anything."""
    if not is_tuple_of(thing, 2):
        raise BadMachine(None)
    counts, touches = thing
    if not are_counts(counts):
        raise BadMachine("counts")
    if type(touches) != tuple or len(touches) > MOST_TOUCHES:
        raise BadMachine("touches")
    need_touches(counts, touches)


def is_machine(thing):
    """Whether anything is a MACHINE."""
    try:
        need_machine(thing)
    except BadMachine:
        return False
    return True


def machine_of(counts, touches):
    """The MACHINE of COUNTS and of pairs of SPOTS in any order, either SPOT ahead."""
    if not are_counts(counts):
        raise BadMachine("counts")
    if type(touches) not in (tuple, list) or len(touches) > MOST_TOUCHES:
        raise BadMachine("touches")
    for pair in touches:
        if not is_pair_of(counts, pair):
            raise BadMachine("touches")
    machine = (counts, tuple(sorted([tuple(sorted(pair)) for pair in touches])))
    need_machine(machine)
    return machine


def cells(machine):
    """How many places all wheels have together."""
    need_machine(machine)
    return sum(machine[0])


def spots(machine):
    """A rising tuple of all SPOTS."""
    need_machine(machine)
    return tuple([(wheel, place) for wheel, count in enumerate(machine[0]) for place in range(count)])


def need_spot(machine, thing):
    """None, or BadSpot(None) of what is no SPOT of the MACHINE; of anything."""
    need_machine(machine)
    need_spot_on(machine[0], thing)


def need_spot_on(counts, thing):
    """None, or BadSpot(None) of what is no SPOT on wheels of what are known to be COUNTS; of anything."""
    if not is_spot_of(counts, thing):
        raise BadSpot(None)


def need_wheel(machine, thing):
    """None, or OutOfPlace of what is no number of a wheel; of anything."""
    need_machine(machine)
    if not is_whole(thing) or not 0 <= thing < len(machine[0]):
        raise OutOfPlace("no number of a wheel")


def need_touch(machine, thing):
    """None, or NoTouch of what is no number of a TOUCH; of anything."""
    need_machine(machine)
    need_touch_in(machine[1], thing)


def need_touch_in(touches, thing):
    """None, or NoTouch of what is no number of one of what are known to be TOUCHES; of anything."""
    if not is_whole(thing) or not 0 <= thing < len(touches):
        raise NoTouch("no number of a touch")


def all_numbers_below(many):
    """A list of all rising tuples of whole numbers from 0 on, below many: fewer numbers ahead, then lesser ones."""
    return [numbers for size in range(many + 1) for numbers in combinations(range(many), size)]
