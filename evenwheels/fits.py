"""What LOADS fit what is SEEN: the LEAST one, or a CLASH that shows there is none."""

from evenwheels.errors import BadPaper, BadReadings, Never
from evenwheels.fractions import is_fraction, is_nought, is_tuple_of, less, times, total
from evenwheels.loads import empty, summed
from evenwheels.machines import MOST_CELLS
from evenwheels.spans import times_to_make, times_to_pair
from evenwheels.windows import flat, looks, need_window, new_looks, weights_at, window_rows


def need_seen(machine, window, seen):
    """None, or BadReadings of what can't be SEEN by a WINDOW; of anything."""
    need_window(machine, window)
    if type(seen) != tuple or not 1 <= len(seen) <= MOST_CELLS:
        raise BadReadings(None)
    for number, looked in enumerate(seen):
        if not are_fractions(looked, len(window)):
            raise BadReadings(number)


def least_load(machine, window, seen):
    """The LEAST LOAD of those with just these LOOKS."""
    need_seen(machine, window, seen)
    load = _least_of_new(machine, window, seen)
    if looks(machine, window, load, len(seen)) != seen:
        raise Never("no load has these looks")
    return load


def first_clash(machine, window, seen):
    """The FIRST CLASH where no LOAD has these LOOKS."""
    need_seen(machine, window, seen)
    told = looks(machine, window, _least_of_new(machine, window, seen), len(seen))
    marks = [(at, place) for at in range(len(seen)) for place in range(len(window))]
    apart = [(at, place) for at, place in marks if told[at][place] != seen[at][place]]
    if len(apart) == 0:
        raise Never("there is a load with these looks")
    return _clash_at(machine, window, len(seen), apart[0])


def check_clash(machine, window, seen, paper):
    """None, or BadPaper of what is no CLASH, of anything."""
    need_seen(machine, window, seen)
    if not is_tuple_of(paper, len(seen)) or not are_weights(window, paper):
        raise BadPaper(None)
    if made_of_rows(machine, window, paper) != empty(machine):
        raise BadPaper("rows")
    if is_nought(total([times(by, reading) for by, reading in zip(flat(paper), flat(seen))])):
        raise BadPaper("seen")


def are_weights(window, thing):
    """Whether anything is WEIGHTS for some beats of what is known to be a WINDOW."""
    return type(thing) == tuple and all([are_fractions(weights, len(window)) for weights in thing])


def made_of_rows(machine, window, weights):
    """The LOAD that all ROWS make by what are known to be WEIGHTS."""
    rows = window_rows(machine, window, len(weights))
    return summed(machine, [row for looked in rows for row in looked], flat(weights))


def are_fractions(thing, many):
    """Whether anything is a tuple of just so many FRACTIONS."""
    return is_tuple_of(thing, many) and all([is_fraction(worth) for worth in thing])


def _least_of_new(machine, window, seen):
    # Just as SEEN at the NEW LOOKS, which tell all others: so SEEN fits some LOAD just where it fits this one.
    rows = window_rows(machine, window, len(seen))
    marks = new_looks(rows)
    ahead = [rows[at][place] for at, place in marks]
    many = times_to_pair([flat(row) for row in ahead], [seen[at][place] for at, place in marks])
    return summed(machine, ahead, many)


def _clash_at(machine, window, beats, mark):
    rows = window_rows(machine, window, beats)
    marks = new_looks(rows)
    many = times_to_make([flat(rows[at][place]) for at, place in marks], flat(rows[mark[0]][mark[1]]))
    against = [less((0, 1), by) for by in many]
    return weights_at(marks + [mark], against + [(1, 1)], beats, len(window))
