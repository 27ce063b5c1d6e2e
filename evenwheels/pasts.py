"""PASTS: LOADS of which a LOAD is what they are behind some beats, and LOADS that show that there are none."""

from evenwheels.errors import BadPaper, Never
from evenwheels.fractions import is_nought, less, times, total
from evenwheels.loads import behind, empty, is_load, load_of_flat, need_load, next_load, one_at
from evenwheels.machines import cells, spots
from evenwheels.mirror import mirror, paired, turned, turned_about
from evenwheels.spans import keep_new, times_to_make, times_to_pair, whole_rows
from evenwheels.windows import flat, need_look_beats


def has_past(machine, load, beats):
    """Whether a LOAD has a PAST of so many beats."""
    need_load(machine, load)
    need_look_beats(beats)
    made = _ones(machine)
    for _ in range(beats):
        made, is_less = _next_made(machine, made)
        if not is_less:
            break
    return _are_of(made, load)


def depth(machine, load):
    """The greatest number of beats of which a LOAD has a PAST, 0 too; None where of any number."""
    need_load(machine, load)
    made = _ones(machine)
    # Each beat there is less that it makes, till there are no more noughts to come: within as many beats as cells.
    for beats in range(cells(machine)):
        made, is_less = _next_made(machine, made)
        if not is_less:
            break
        if not _are_of(made, load):
            return beats
    return None


def least_past(machine, load, beats):
    """The LEAST of all PASTS of so many beats."""
    need_load(machine, load)
    need_look_beats(beats)
    past = _least_of_new(machine, load, _rows_behind(machine, beats))
    if behind(machine, past, beats) != load:
        raise Never("no past of so many beats")
    return past


def no_past(machine, load, beats):
    """A LOAD by which a LOAD has no PAST of so many beats."""
    need_load(machine, load)
    need_look_beats(beats)
    rows = _rows_behind(machine, beats)
    told = flat(behind(machine, _least_of_new(machine, load, rows), beats))
    for at, worth in enumerate(flat(load)):
        if told[at] != worth:
            return turned_about(load_of_flat(machine, _noughts_of_rows(rows, at)))
    raise Never("there is a past of so many beats")


def check_no_past(machine, load, beats, paper):
    """None, or BadPaper of what shows no lack of a PAST; of anything."""
    need_load(machine, load)
    need_look_beats(beats)
    if not is_load(machine, paper):
        raise BadPaper(None)
    if behind(mirror(machine), paper, beats) != empty(machine):
        raise BadPaper("noughts")
    if is_nought(paired(machine, turned(machine, load), paper)):
        raise BadPaper("paired")


def _ones(machine):
    return [one_at(machine, spot) for spot in spots(machine)]


def _next_made(machine, loads):
    # Of LOADS, no sums of one another, behind a beat those that are no sums of those ahead; and whether there are less.
    found = []
    kept = []
    for load in loads:
        now = next_load(machine, load)
        if keep_new(kept, _whole(now)):
            found.append(now)
    return (found, len(found) < len(loads))


def _are_of(loads, load):
    # Whether a LOAD is a sum of others, each so many times.
    kept = []
    for one in loads:
        keep_new(kept, _whole(one))
    return not keep_new(kept, _whole(load))


def _whole(load):
    return whole_rows([flat(load)])[0][0]


def _rows_behind(machine, beats):
    # For each place what one at each place first makes of it.
    made = [flat(behind(machine, one, beats)) for one in _ones(machine)]
    return [list(row) for row in zip(*made)]


def _new_numbers(rows):
    kept = []
    found = []
    for number, row in enumerate(whole_rows(rows)[0]):
        if keep_new(kept, row):
            found.append(number)
    return found


def _least_of_new(machine, load, rows):
    # Just as the LOAD at the places whose rows are NEW, which tell all others: a PAST where there is one.
    numbers = _new_numbers(rows)
    ahead = [rows[number] for number in numbers]
    worths = flat(load)
    by = times_to_pair(ahead, [worths[number] for number in numbers])
    past = [total([times(more, row[at]) for more, row in zip(by, ahead)]) for at in range(cells(machine))]
    return load_of_flat(machine, past)


def _noughts_of_rows(rows, at):
    # How many times each row, so that all make noughts: once that of a place that isn't NEW, else but NEW ones.
    numbers = _new_numbers(rows)
    found = [(0, 1)] * len(rows)
    for number, by in zip(numbers, times_to_make([rows[number] for number in numbers], rows[at])):
        found[number] = less((0, 1), by)
    found[at] = (1, 1)
    return found
