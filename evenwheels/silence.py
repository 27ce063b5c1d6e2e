"""What a WINDOW can't tell: SILENT LOADS, and the SPOTS that it TELLS, with papers that show it."""

from evenwheels.errors import BadPaper, Never
from evenwheels.fits import are_weights, made_of_rows
from evenwheels.fractions import is_nought
from evenwheels.loads import load_of_flat, need_load_on, one_at
from evenwheels.machines import MOST_CELLS, cells, need_spot_on, spots
from evenwheels.spans import times_to_make, unseen
from evenwheels.windows import flat, looks, need_window, new_looks, weights_at, window_rows


def silent(machine, window):
    """A tuple of SILENT LOADS that tell all: each has 1 first, all others noughts there, these places rising."""
    need_window(machine, window)
    _, rows = _new_rows(machine, window)
    return tuple([load_of_flat(machine, row) for row in unseen(rows, cells(machine))])


def is_silent(machine, window, load):
    """Whether all LOOKS of a LOAD are nought, for ever."""
    need_window(machine, window)
    need_load_on(machine[0], load)
    # What isn't nought at one of so many beats never is.
    return all([is_nought(reading) for reading in flat(looks(machine, window, load, cells(machine)))])


def told_spots(machine, window):
    """A rising tuple of the SPOTS that are TOLD."""
    need_window(machine, window)
    _, rows = _new_rows(machine, window)
    hidden = unseen(rows, cells(machine))
    told = [all([is_nought(row[at]) for row in hidden]) for at in range(cells(machine))]
    return tuple([spot for spot, is_told in zip(spots(machine), told) if is_told])


def telling(machine, window, spot):
    """A TELLING of a SPOT: WEIGHTS for as many beats as there are cells."""
    need_window(machine, window)
    need_spot_on(machine[0], spot)
    marks, rows = _new_rows(machine, window)
    at = spots(machine).index(spot)
    if any([not is_nought(row[at]) for row in unseen(rows, cells(machine))]):
        raise Never("not told by this window")
    many = times_to_make(rows, flat(one_at(machine, spot)))
    return weights_at(marks, many, cells(machine), len(window))


def check_telling(machine, window, spot, paper):
    """None, or BadPaper of what is no TELLING of a SPOT; of anything."""
    need_window(machine, window)
    need_spot_on(machine[0], spot)
    if not are_weights(window, paper) or not 1 <= len(paper) <= MOST_CELLS:
        raise BadPaper(None)
    if made_of_rows(machine, window, paper) != one_at(machine, spot):
        raise BadPaper("rows")


def _new_rows(machine, window):
    # The marks of the NEW LOOKS of as many beats as there are cells, and their ROWS.
    rows = window_rows(machine, window, cells(machine))
    marks = new_looks(rows)
    return (marks, [flat(rows[at][place]) for at, place in marks])
