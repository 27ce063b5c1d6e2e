"""Which rows of FRACTIONS are sums of others, each so many times; reckoned with whole numbers alone."""

from math import gcd, lcm

from evenwheels.fractions import fraction, is_nought, less, over, times, total


def whole_rows(rows):
    """The rows as lists of whole numbers, all by one bottom, and that bottom."""
    bottom = 1
    for row in rows:
        for _, below in row:
            bottom = lcm(bottom, below)
    return ([[top * (bottom // under) for top, under in line] for line in rows], bottom)


def keep_new(kept, row):
    """Whether a row of whole numbers is no sum of what was kept; if so, what is left of it is kept, too."""
    left = row
    for place, ahead in kept:
        if left[place] != 0:
            left = _without(left, ahead, place)
    for place, worth in enumerate(left):
        if worth != 0:
            kept.append((place, left))
            return True
    return False


def times_to_pair(rows, goals):
    """How many times each row, so that the sum PAIRED with each makes its goal; rows no sums of one another."""
    whole, bottom = whole_rows(rows)
    wanted, under = whole_rows([goals])
    found = _solved(_all_paired(whole), wanted[0])
    return [fraction(top * bottom * bottom, below * under) for top, below in found]


def times_to_make(rows, told):
    """How many times each row, so that the sum is a told row that is such a sum; rows no sums of one another."""
    whole, _ = whole_rows(rows + [told])
    ahead = whole[:-1]
    found = _solved(_all_paired(ahead), [_paired(row, whole[-1]) for row in ahead])
    return [fraction(top, below) for top, below in found]


def unseen(rows, width):
    """Rows that, PAIRED with each of these, make nought: each has 1 first, all others noughts there, rising."""
    kept = []
    # From the last place on, so that what is left free stands ahead of all that it tells.
    for row in whole_rows(rows)[0]:
        keep_new(kept, row[::-1])
    taken = [place for place, _ in kept]
    free = [place for place in range(width) if place not in taken]
    return [_told_by_free(kept, width, place)[::-1] for place in reversed(free)]


def _told_by_free(kept, width, free):
    # One at the free place, noughts at the others; each kept row tells its own place by those told before it.
    found = [(0, 1)] * width
    found[free] = (1, 1)
    for place, row in reversed(kept):
        told = total([times((worth, 1), by) for worth, by in zip(row, found) if worth != 0 and not is_nought(by)])
        found[place] = over(less((0, 1), told), (row[place], 1))
    return found


def _all_paired(rows):
    return [[_paired(one, other) for other in rows] for one in rows]


def _paired(one, other):
    return sum([worth * beside for worth, beside in zip(one, other)])


def _without(row, ahead, place):
    # Nought at the place then; what divides all is left out, so that the numbers don't grow without end.
    mixed = [ahead[place] * worth - row[place] * beside for worth, beside in zip(row, ahead)]
    common = 0
    for worth in mixed:
        common = gcd(common, worth)
    return [worth // max(common, 1) for worth in mixed]


def _solved(square, goals):
    # Pairs (TOP, BOTTOM). All that stands there at any step is a determinant, so each division leaves nothing over;
    # and none by which it divides is nought, as rows that are no sums of one another are PAIRED here.
    rows = [row + [goal] for row, goal in zip(square, goals)]
    ahead = 1
    for at in range(len(rows)):
        first = rows[at]
        rows = [first if number == at else _cleared(row, first, at, ahead) for number, row in enumerate(rows)]
        ahead = first[at]
    return [(row[-1], row[number]) for number, row in enumerate(rows)]


def _cleared(row, first, at, ahead):
    return [(first[at] * worth - row[at] * beside) // ahead for worth, beside in zip(row, first)]
