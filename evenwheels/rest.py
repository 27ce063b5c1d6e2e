"""REST: behind how many beats all is EVEN, whatever was put on, and UNREST PAPERS that show it never is."""

from evenwheels.classes import class_of, classes
from evenwheels.ends import hold_alike
from evenwheels.errors import BadPaper, Never
from evenwheels.fractions import is_tuple_of
from evenwheels.loads import beat, behind, one_at
from evenwheels.machines import cells, is_spot_of, need_machine, spots
from evenwheels.rules import left_over
from evenwheels.web import lots


def rests(machine):
    """Whether the MACHINE RESTS at all: Q of each LOT is 1."""
    need_machine(machine)
    return all([left_over(machine, lot[0]) == ((1, 1),) for lot in lots(machine)])


def rest_beat(machine):
    """The least number of beats behind which every LOAD is EVEN."""
    if not rests(machine):
        raise Never("it never rests")
    groups = classes(machine)
    return max([_beats_till_even(machine, groups, spot) for spot in spots(machine)])


def unrest_paper(machine):
    """An UNREST PAPER, the first one by its SPOTS."""
    need_machine(machine)
    groups = classes(machine)
    for spot in spots(machine):
        load = behind(machine, one_at(machine, spot), cells(machine))
        for members in groups:
            for other in members[1:]:
                if _held_at(load, members[0]) != _held_at(load, other):
                    return (spot, members[0], other)
    raise Never("it rests")


def check_unrest(machine, paper):
    """What ONE and OTHER of an UNREST PAPER hold, a pair of FRACTIONS; BadPaper of what is none, of anything."""
    need_machine(machine)
    if not is_tuple_of(paper, 3):
        raise BadPaper(None)
    for place, spot in zip(("from", "one", "other"), paper):
        if not is_spot_of(machine[0], spot):
            raise BadPaper(place)
    begin, one, other = paper
    if other <= one:
        raise BadPaper("other")
    if class_of(machine, one) != class_of(machine, other):
        raise BadPaper("class")
    load = behind(machine, one_at(machine, begin), cells(machine))
    if _held_at(load, one) == _held_at(load, other):
        raise BadPaper("worth")
    return (_held_at(load, one), _held_at(load, other))


def _held_at(load, spot):
    wheel, place = spot
    return load[wheel][place]


def _beats_till_even(machine, groups, spot):
    # What is EVEN stays so; all LOADS are sums of those of one at a SPOT.
    load = one_at(machine, spot)
    beats = 0
    while not hold_alike(groups, load):
        load = beat(machine, load)
        beats += 1
    return beats
