"""What hands make at a WINDOW: LOADS MADE by GIFTS, and GIFTS by which a LOAD is MADE."""

from evenwheels.errors import Never
from evenwheels.fits import need_seen
from evenwheels.loads import empty, halves_on, need_load_on, next_load, summed
from evenwheels.spans import times_to_make
from evenwheels.windows import flat, need_look_beats, need_window, new_looks, weights_at


def made(machine, window, gifts):
    """What stands on wheels that were empty, behind as many beats as there are tuples of GIFTS."""
    need_seen(machine, window, gifts)
    halves = [halves_on(machine, touch) for touch in window]
    now = empty(machine)
    for gift in gifts:
        now = next_load(machine, summed(machine, [now] + halves, ((1, 1),) + gift))
    return now


def gifts_for(machine, window, load, many):
    """GIFTS of so many tuples by which a LOAD is MADE."""
    need_window(machine, window)
    need_load_on(machine[0], load)
    need_look_beats(many)
    rows = _what_ones_make(machine, window, many)
    marks = new_looks(rows)
    by = times_to_make([flat(rows[at][place]) for at, place in marks], flat(load))
    gifts = weights_at([(many - 1 - at, place) for at, place in marks], by, many, len(window))
    # What no GIFTS make these come nearest to, but don't make.
    if made(machine, window, gifts) != load:
        raise Never("no gifts make it")
    return gifts


def _what_ones_make(machine, window, many):
    # For each tuple, from the last one on, what a GIFT of one at each TOUCH of the WINDOW makes.
    found = []
    now = [halves_on(machine, touch) for touch in window]
    for _ in range(many):
        now = [next_load(machine, load) for load in now]
        found.append(now)
    return found
