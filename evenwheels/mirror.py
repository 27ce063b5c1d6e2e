"""MIRROR of a MACHINE, which goes the other way about, and LOADS TURNED and PAIRED."""

from evenwheels.fractions import times, total
from evenwheels.loads import need_load
from evenwheels.machines import machine_of, need_machine, need_touch


def mirror(machine):
    """The MACHINE with each SPOT (W, P) of a TOUCH at (W, 1 - P)."""
    need_machine(machine)
    return machine_of(machine[0], [_mirrored(machine, pair) for pair in machine[1]])


def mirror_touch(machine, touch):
    """The number by MIRROR of a TOUCH."""
    need_touch(machine, touch)
    return mirror(machine)[1].index(_mirrored(machine, machine[1][touch]))


def turned(machine, load):
    """The LOAD that has at (W, P) what this has at (W, -P)."""
    need_load(machine, load)
    return turned_about(load)


def paired(machine, load, other):
    """The sum, over all places, of what stands there in both, multiplied."""
    need_load(machine, load)
    need_load(machine, other)
    worths = [times(worth, beside) for row, across in zip(load, other) for worth, beside in zip(row, across)]
    return total(worths)


def turned_about(load):
    """TURNED, of what is known to be a LOAD."""
    return tuple([row[:1] + row[:0:-1] for row in load])


def _mirrored(machine, pair):
    return tuple(sorted([(wheel, (1 - place) % machine[0][wheel]) for wheel, place in pair]))
