"""ENGINES: a MACHINE and a LOAD that roll on, that are given to and changed, and whose deeds can be taken back."""

from evenwheels.classes import class_sums
from evenwheels.errors import Never, OutOfPlace
from evenwheels.fractions import is_whole, less, need_fraction, plus
from evenwheels.loads import MOST_BEATS, added, behind, need_load, one_at, readings, scaled, squares
from evenwheels.machines import need_spot
from evenwheels.more import lifted, put_on
from evenwheels.owed import owed


class Engine:
    """A MACHINE with a LOAD, a CLOCK, what was MET SO FAR and the WORTH GIVEN."""

    def __init__(self, machine, load):
        need_load(machine, load)
        self._machine = machine
        self._load = load
        self._clock = 0
        self._met_so_far = (0, 1)
        self._worth_given = (0, 1)
        # For each deed that stands all five, as they were ahead of it.
        self._ahead = []

    def roll(self, beats):
        """Roll so many beats; a list of what is READ."""
        if not is_whole(beats) or not 1 <= beats <= MOST_BEATS:
            raise OutOfPlace("no number of beats from 1 to 300")
        told = readings(self._machine, self._load, beats)
        load = behind(self._machine, self._load, beats)
        # What is MET is by what squares get less.
        gone = less(squares(self._machine, self._load), squares(self._machine, load))
        self._keep_ahead()
        self._load = load
        self._clock += beats
        self._met_so_far = plus(self._met_so_far, gone)
        return told

    def give(self, spot, by):
        """Give a FRACTION at a SPOT."""
        need_spot(self._machine, spot)
        need_fraction(by)
        load = added(self._machine, self._load, scaled(self._machine, one_at(self._machine, spot), by))
        more = less(squares(self._machine, load), squares(self._machine, self._load))
        self._keep_ahead()
        self._load = load
        self._worth_given = plus(self._worth_given, more)

    def put_on(self, spot, other):
        """Put a FREE PAIR on; the number of the new TOUCH."""
        machine = put_on(self._machine, spot, other)
        self._keep_ahead()
        self._machine = machine
        return machine[1].index((min(spot, other), max(spot, other)))

    def lift(self, touch):
        """Lift a TOUCH."""
        machine = lifted(self._machine, touch)
        self._keep_ahead()
        self._machine = machine

    def undo(self):
        """Take the last deed that stands back."""
        if len(self._ahead) == 0:
            raise Never("no deed stands")
        self._stand_as(self._ahead.pop())

    def machine(self):
        """The MACHINE as it is now."""
        return self._machine

    def load(self):
        """The LOAD as it is now."""
        return self._load

    def clock(self):
        """How many beats it has rolled."""
        return self._clock

    def sums(self):
        """The CLASS SUMS as they are now."""
        return class_sums(self._machine, self._load)

    def met_so_far(self):
        """All that was MET."""
        return self._met_so_far

    def worth_given(self):
        """By what squares are more by all that was GIVEN."""
        return self._worth_given

    def owed(self):
        """What is OWED now."""
        return owed(self._machine, self._load)

    def twin(self):
        """Another one that stands so, its deeds too, and goes by itself."""
        other = Engine(self._machine, self._load)
        other._stand_as(self._as_it_stands())
        other._ahead = list(self._ahead)
        return other

    def __len__(self):
        return len(self._ahead)

    def __eq__(self, other):
        return (isinstance(other, Engine) and self._machine == other._machine and self._load == other._load
                and self._clock == other._clock and self._met_so_far == other._met_so_far
                and self._worth_given == other._worth_given)

    def _as_it_stands(self):
        return (self._machine, self._load, self._clock, self._met_so_far, self._worth_given)

    def _keep_ahead(self):
        self._ahead.append(self._as_it_stands())

    def _stand_as(self, told):
        self._machine, self._load, self._clock, self._met_so_far, self._worth_given = told
