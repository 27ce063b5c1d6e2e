"""What is left in the end: each CLASS SUM, shared alike by all SPOTS of its CLASS."""

from evenwheels.classes import all_classes, sums_of
from evenwheels.fractions import over
from evenwheels.loads import need_load, need_load_on


def evened(machine, load):
    """The LOAD EVENED: each SPOT holds the CLASS SUM by how many SPOTS its CLASS has."""
    need_load(machine, load)
    groups = all_classes(machine)
    means = {}
    for members, worth in zip(groups, sums_of(groups, load)):
        mean = over(worth, (len(members), 1))
        for spot in members:
            means[spot] = mean
    return tuple([tuple([means[(wheel, place)] for place in range(count)]) for wheel, count in enumerate(machine[0])])


def is_even(machine, load):
    """Whether all SPOTS of each CLASS hold the same."""
    need_load(machine, load)
    return hold_alike(all_classes(machine), load)


def end_alike(machine, load, other):
    """Whether two LOADS leave the same in the end."""
    need_load(machine, load)
    need_load_on(machine[0], other)
    groups = all_classes(machine)
    return sums_of(groups, load) == sums_of(groups, other)


def hold_alike(groups, load):
    """Whether in each group of SPOTS all hold the same, of a LOAD known to be one."""
    for members in groups:
        worths = [load[wheel][place] for wheel, place in members]
        if any([worth != worths[0] for worth in worths]):
            return False
    return True
