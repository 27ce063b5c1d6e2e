"""LOADS: what stands at each place, and what becomes of it beat by beat."""

from evenwheels.errors import BadLoad, OutOfPlace
from evenwheels.fractions import (
    half, is_fraction, is_nought, is_tuple_of, is_whole, need_fraction, plus, times, total,
)
from evenwheels.machines import need_machine, need_spot

MOST_BEATS = 300


def need_load(machine, thing):
    """None, or BadLoad of what is no LOAD of the MACHINE; of anything."""
    need_machine(machine)
    need_load_on(machine[0], thing)


def need_load_on(counts, thing):
    """None, or BadLoad of what is no LOAD on wheels of what are known to be COUNTS; of anything."""
    if not is_tuple_of(thing, len(counts)):
        raise BadLoad(None)
    for wheel, count in enumerate(counts):
        if not is_tuple_of(thing[wheel], count):
            raise BadLoad(None)
    for wheel, row in enumerate(thing):
        for place, worth in enumerate(row):
            if not is_fraction(worth):
                raise BadLoad((wheel, place))


def is_load(machine, thing):
    """Whether anything is a LOAD of the MACHINE."""
    try:
        need_load(machine, thing)
    except BadLoad:
        return False
    return True


def need_beats(beats):
    """None, or OutOfPlace of what is no number of beats; of anything."""
    if not is_whole(beats) or not 0 <= beats <= MOST_BEATS:
        raise OutOfPlace("no number of beats from 0 to 300")


def empty(machine):
    """The LOAD of noughts."""
    need_machine(machine)
    return tuple([((0, 1),) * count for count in machine[0]])


def one_at(machine, spot):
    """The LOAD of one at a SPOT, noughts else."""
    need_spot(machine, spot)
    rows = [[(0, 1)] * count for count in machine[0]]
    rows[spot[0]][spot[1]] = (1, 1)
    return _load_of(rows)


def halves_on(machine, touch):
    """The LOAD of a half at both SPOTS of a TOUCH, of what are known to be a MACHINE and a number of one."""
    rows = [[(0, 1)] * count for count in machine[0]]
    for wheel, place in machine[1][touch]:
        rows[wheel][place] = (1, 2)
    return _load_of(rows)


def added(machine, load, other):
    """Two LOADS, place by place together."""
    need_load(machine, load)
    need_load(machine, other)
    return tuple([tuple([plus(worth, more) for worth, more in zip(row, beside)]) for row, beside in zip(load, other)])


def scaled(machine, load, by):
    """A LOAD so many times."""
    need_load(machine, load)
    need_fraction(by)
    return tuple([tuple([times(worth, by) for worth in row]) for row in load])


def summed(machine, loads, many):
    """LOADS, each so many times, together; of what are known to be a MACHINE, LOADS of it and FRACTIONS."""
    so_far = [[(0, 1)] * count for count in machine[0]]
    for load, by in zip(loads, many):
        if not is_nought(by):
            so_far = [[plus(worth, times(more, by)) for worth, more in zip(row, beside)]
                      for row, beside in zip(so_far, load)]
    return _load_of(so_far)


def load_of_flat(machine, worths):
    """The LOAD of as many FRACTIONS as there are cells, place by place, of what is known to be a MACHINE."""
    rows = []
    begun = 0
    for count in machine[0]:
        rows.append(tuple(worths[begun:begun + count]))
        begun += count
    return tuple(rows)


def held(machine, load):
    """All that is held, together."""
    need_load(machine, load)
    return total([worth for row in load for worth in row])


def squares(machine, load):
    """The squares of all that is held, together."""
    need_load(machine, load)
    return total([times(worth, worth) for row in load for worth in row])


def read(machine, load):
    """A tuple of the READINGS of all TOUCHES, in order."""
    need_load(machine, load)
    return _read(machine, load)


def beat(machine, load):
    """The LOAD behind one beat."""
    need_load(machine, load)
    return next_load(machine, load)


def behind(machine, load, beats):
    """The LOAD behind so many beats."""
    need_load(machine, load)
    need_beats(beats)
    now = load
    for _ in range(beats):
        now = next_load(machine, now)
    return now


def readings(machine, load, beats):
    """A list of what is read at beats 0 to beats - 1."""
    need_load(machine, load)
    need_beats(beats)
    found = []
    now = load
    for _ in range(beats):
        found.append(_read(machine, now))
        now = next_load(machine, now)
    return found


def next_load(machine, load):
    """The LOAD behind one beat, of what are known to be a MACHINE and a LOAD of it."""
    rows = [list(row) for row in load]
    for pair, reading in zip(machine[1], _read(machine, load)):
        for wheel, place in pair:
            rows[wheel][place] = reading
    # What stands at place P rolls to P - 1, what stands at 0 to the last place.
    return _load_of([row[1:] + row[:1] for row in rows])


def _load_of(rows):
    return tuple([tuple(row) for row in rows])


def _read(machine, load):
    return tuple([half(plus(load[wheel][place], load[across][beside]))
                  for (wheel, place), (across, beside) in machine[1]])
