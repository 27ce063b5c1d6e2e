"""THE RULE that READINGS follow: D of a LOT, told by its WAYS and by its places."""

from evenwheels.closed import simple_ways
from evenwheels.errors import BadReadings, BadRule
from evenwheels.fractions import fraction, is_fraction, is_nought, times, total
from evenwheels.machines import MOST_CELLS, MOST_TOUCHES, cells, need_machine, need_touch
from evenwheels.polynomials import degree_of, divided_by, need_polynomial, one_less, product_of, trimmed
from evenwheels.shifts import g_of
from evenwheels.web import across_touches, has_touch, lot_of, lots, rolled, ways_by_spot


def rule_by_ways(machine, wheel):
    """D of a wheel's LOT, by sets of SIMPLE CLOSED WAYS."""
    if not has_touch(machine, lot_of(machine, wheel)):
        return one_less(machine[0][wheel])
    tops = [0] * (MOST_CELLS + 1)
    tally = _sets_of_rounds(machine, wheel)
    for (_, gaps), top in tally.items():
        tops[gaps] += top
    return trimmed([fraction(top, 1 << MOST_TOUCHES) for top in tops])


def rule_by_places(machine, wheel):
    """D of a wheel's LOT, as the determinant of one less Y times BEAT."""
    ahead = _rows_ahead(machine, lot_of(machine, wheel))
    many = len(ahead)
    square = [[0] * many for _ in range(many)]
    found = [1]
    # Leverrier's way: what comes last by the trace of BEAT's twice times what was ahead of it, all whole numbers.
    for number in range(1, many + 1):
        for at in range(many):
            square[at][at] += found[-1]
        square = [[worth + more for worth, more in zip(square[one], square[other])] for one, other in ahead]
        found.append(-sum([square[at][at] for at in range(many)]) // number)
    return trimmed([fraction(top, 1 << number) for number, top in enumerate(found)])


def left_over(machine, wheel):
    """Q of a wheel's LOT: what one less Y to the G goes into D."""
    goes, _ = divided_by(rule_by_ways(machine, wheel), one_less(g_of(machine, wheel)))
    return goes


def rule_of(machine, touch):
    """D of the LOT of a TOUCH, told by its number."""
    need_touch(machine, touch)
    return rule_by_ways(machine, machine[1][touch][0][0])


def whole_rule(machine):
    """D of the MACHINE: its LOTS' D multiplied."""
    need_machine(machine)
    found = ((1, 1),)
    for lot in lots(machine):
        found = product_of(found, rule_by_ways(machine, lot[0]))
    return found


def how_many_die(machine):
    """Of how many dimensions those LOADS are that hold nought at each place from some beat on."""
    need_machine(machine)
    return cells(machine) - degree_of(whole_rule(machine))


def follows(one, things):
    """Whether FRACTIONS in a list or tuple, each from the DEGREE on, follow a POLYNOMIAL."""
    need_polynomial(one)
    if len(one) == 0 or is_nought(one[0]):
        raise BadRule(0)
    if type(things) not in (list, tuple):
        raise BadReadings(None)
    for number, worth in enumerate(things):
        if not is_fraction(worth):
            raise BadReadings(number)
    for number in range(len(one) - 1, len(things)):
        earlier = [times(by, things[number - back]) for back, by in enumerate(one)]
        if not is_nought(total(earlier)):
            return False
    return True


def _sets_of_rounds(machine, wheel):
    # For TOUCHES gone through, a bit each, and GAPS together: what all such sets make, in parts of 2 ** MOST_TOUCHES.
    ways = ways_by_spot(machine)
    tally = {(0, 0): 1 << MOST_TOUCHES}
    for way in simple_ways(machine, wheel):
        gone = sum([1 << ways[spot][0] for spot in way])
        gaps = sum([ways[spot][3] for spot in way])
        ahead = list(tally.items())
        for (others, so_far), top in ahead:
            if others & gone == 0:
                name = (others | gone, so_far + gaps)
                tally[name] = tally.get(name, 0) - (top >> len(way))
    return tally


def _rows_ahead(machine, lot):
    # For each place of a LOT the two, or the one twice, of which half together stands there behind a BEAT.
    number_of = {}
    for wheel in lot:
        for place in range(machine[0][wheel]):
            number_of[(wheel, place)] = len(number_of)
    across = across_touches(machine)
    sources = [rolled(machine, spot, -1) for spot in number_of]
    return [(number_of[spot], number_of[across.get(spot, spot)]) for spot in sources]
