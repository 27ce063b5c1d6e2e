"""AIMS: what has to be GIVEN now so that a TOUCH READS a told FRACTION some beats from now."""

from evenwheels.errors import Never
from evenwheels.fractions import is_nought, less, need_fraction, over
from evenwheels.loads import need_beats, need_load_on, scaled
from evenwheels.machines import need_machine, need_spot_on, need_touch_in
from evenwheels.mirror import paired
from evenwheels.windows import row_of


def aim(machine, load, touch, beats, spot, reading):
    """What has to be GIVEN at one SPOT."""
    _need_question(machine, load, touch, beats)
    need_spot_on(machine[0], spot)
    need_fraction(reading)
    row = row_of(machine, touch, beats)
    wheel, place = spot
    if is_nought(row[wheel][place]):
        raise Never("what is given there isn't read then")
    return over(less(reading, paired(machine, row, load)), row[wheel][place])


def least_aim(machine, load, touch, beats, reading):
    """The LEAST of all gifts at many SPOTS, a LOAD."""
    _need_question(machine, load, touch, beats)
    need_fraction(reading)
    row = row_of(machine, touch, beats)
    lacking = less(reading, paired(machine, row, load))
    return scaled(machine, row, over(lacking, paired(machine, row, row)))


def _need_question(machine, load, touch, beats):
    need_machine(machine)
    need_load_on(machine[0], load)
    need_touch_in(machine[1], touch)
    need_beats(beats)
