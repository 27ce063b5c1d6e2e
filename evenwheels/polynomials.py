"""POLYNOMIALS: tuples of FRACTIONS, what stands by Y to I at I, the last one not nought."""

from evenwheels.errors import BadRule, OutOfPlace
from evenwheels.fractions import is_fraction, is_nought, is_whole, less, need_fraction, over, plus, times
from evenwheels.machines import MOST_CELLS


def need_polynomial(thing):
    """None, or BadRule of what is no POLYNOMIAL; of anything."""
    if type(thing) != tuple:
        raise BadRule(None)
    for number, worth in enumerate(thing):
        if not is_fraction(worth):
            raise BadRule(number)
    if len(thing) > 0 and is_nought(thing[-1]):
        raise BadRule(len(thing) - 1)


def is_polynomial(thing):
    """Whether anything is a POLYNOMIAL."""
    try:
        need_polynomial(thing)
    except BadRule:
        return False
    return True


def degree_of(one):
    """The DEGREE; -1 of nought."""
    need_polynomial(one)
    return len(one) - 1


def sum_of(one, other):
    """The sum of two POLYNOMIALS."""
    need_polynomial(one)
    need_polynomial(other)
    many = max(len(one), len(other))
    return trimmed([plus(worth, beside) for worth, beside in zip(_padded(one, many), _padded(other, many))])


def product_of(one, other):
    """The product of two POLYNOMIALS."""
    need_polynomial(one)
    need_polynomial(other)
    found = [(0, 1)] * (len(one) + len(other))
    for at, worth in enumerate(one):
        for beside, by in enumerate(other):
            found[at + beside] = plus(found[at + beside], times(worth, by))
    return trimmed(found)


def divided_by(one, other):
    """What the other one goes into the first, and what is left, of a lesser DEGREE than the other one."""
    need_polynomial(one)
    need_polynomial(other)
    if len(other) == 0:
        raise OutOfPlace("nothing goes by nought")
    left = list(one)
    many = max(len(one) - len(other) + 1, 0)
    goes = [(0, 1)] * many
    for at in reversed(range(many)):
        goes[at] = over(left[at + len(other) - 1], other[-1])
        for beside, by in enumerate(other):
            left[at + beside] = less(left[at + beside], times(goes[at], by))
    return (trimmed(goes), trimmed(left))


def worth_at(one, number):
    """The WORTH at a FRACTION."""
    need_polynomial(one)
    need_fraction(number)
    so_far = (0, 1)
    for worth in reversed(one):
        so_far = plus(times(so_far, number), worth)
    return so_far


def out_row(one):
    """The OUT ROW, a list: no root is of length 1 or less just where all of it lies between -1 and 1."""
    need_polynomial(one)
    if len(one) == 0 or is_nought(one[0]):
        raise OutOfPlace("nothing stands at 0")
    now = [over(worth, one[0]) for worth in one]
    found = []
    while len(now) > 1:
        last = now[-1]
        found.append(last)
        if abs(last[0]) >= last[1]:
            break
        now = _one_shorter(now)
    return found


def one_less(many):
    """One less Y to the many."""
    if not is_whole(many) or not 1 <= many <= MOST_CELLS:
        raise OutOfPlace("no whole number from 1 to 30")
    return ((1, 1),) + ((0, 1),) * (many - 1) + ((-1, 1),)


def trimmed(things):
    """The POLYNOMIAL of FRACTIONS in a list or tuple, noughts at the end left out."""
    many = len(things)
    while many > 0 and is_nought(things[many - 1]):
        many -= 1
    return tuple(things[:many])


def _padded(one, many):
    return one + ((0, 1),) * (many - len(one))


def _one_shorter(now):
    # Its last place, nought now, is left out; the one then last may be nought, too, and stays.
    last = now[-1]
    by = less((1, 1), times(last, last))
    return [over(less(worth, times(last, across)), by) for worth, across in zip(now[:-1], now[:0:-1])]
