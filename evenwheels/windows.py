"""WINDOWS: what TOUCHES tell of what was put on, by the ROWS with which LOADS are PAIRED."""

from evenwheels.errors import NoTouch, OutOfPlace
from evenwheels.fractions import is_whole
from evenwheels.loads import halves_on, need_beats, need_load, next_load, readings
from evenwheels.machines import MOST_CELLS, are_numbers_below, cells, need_machine, need_touch
from evenwheels.mirror import mirror, turned_about
from evenwheels.spans import keep_new, times_to_make, whole_rows


def need_window(machine, window):
    """None, or NoTouch of what is no WINDOW; of anything."""
    need_machine(machine)
    if not are_numbers_below(len(machine[1]), window) or len(window) == 0:
        raise NoTouch("no window")


def row_of(machine, touch, beat):
    """The ROW of a TOUCH at a beat."""
    need_touch(machine, touch)
    need_beats(beat)
    across = mirror(machine)
    now = turned_about(halves_on(machine, touch))
    for _ in range(beat):
        now = next_load(across, now)
    return turned_about(now)


def looks(machine, window, load, beats):
    """What the TOUCHES of a WINDOW READ at beats 0 to beats - 1: a tuple for each beat."""
    need_window(machine, window)
    need_load(machine, load)
    need_look_beats(beats)
    told = readings(machine, load, beats)
    return tuple([tuple([reading[touch] for touch in window]) for reading in told])


def rank(machine, window, beats):
    """How many ROWS of the LOOKS, in order, are no sums of those ahead."""
    need_window(machine, window)
    need_look_beats(beats)
    return len(new_looks(window_rows(machine, window, beats)))


def sees(machine, window):
    """The RANK for as many beats as there are cells."""
    need_window(machine, window)
    return rank(machine, window, cells(machine))


def shortest(machine, touch):
    """The SHORTEST of a TOUCH: by it each READING is told by those ahead."""
    need_touch(machine, touch)
    # So many ROWS and one more can't be all no sums of those ahead.
    rows = [flat(row) for row in _rows_from(machine, mirror(machine), touch, cells(machine) + 1)]
    kept = []
    many = 0
    while keep_new(kept, whole_rows([rows[many]])[0][0]):
        many += 1
    return tuple(times_to_make(rows[:many], rows[many])[::-1])


def need_look_beats(beats):
    """None, or OutOfPlace of what is no number of beats for LOOKS; of anything."""
    if not is_whole(beats) or not 1 <= beats <= MOST_CELLS:
        raise OutOfPlace("no number of beats from 1 to 30")


def flat(load):
    """All that a LOAD holds, place by place, in one list."""
    return [worth for row in load for worth in row]


def window_rows(machine, window, beats):
    """For each beat a list of the ROWS of its LOOKS, LOADS, of what is known to be a WINDOW."""
    across = mirror(machine)
    by_touch = [_rows_from(machine, across, touch, beats) for touch in window]
    return [[rows[at] for rows in by_touch] for at in range(beats)]


def new_looks(rows):
    """A list of the NEW LOOKS, pairs of beat and place in the WINDOW, by what window_rows tells."""
    kept = []
    found = []
    for at, looked in enumerate(rows):
        many = len(kept)
        whole, _ = whole_rows([flat(row) for row in looked])
        for place, row in enumerate(whole):
            if keep_new(kept, row):
                found.append((at, place))
        # Where none is NEW at one beat, none is from then on.
        if len(kept) == many:
            break
    return found


def weights_at(marks, many, beats, width):
    """WEIGHTS, or GIFTS: what is told at each mark, a pair of beat and place in the WINDOW, noughts else."""
    told = [[(0, 1)] * width for _ in range(beats)]
    for (at, place), by in zip(marks, many):
        told[at][place] = by
    return tuple([tuple(row) for row in told])


def _rows_from(machine, across, touch, beats):
    # All ROWS of a TOUCH at beats 0 to beats - 1, by MIRROR.
    now = turned_about(halves_on(machine, touch))
    found = []
    for _ in range(beats):
        found.append(turned_about(now))
        now = next_load(across, now)
    return found
