"""MACHINES that have ONE WEB: all that crossing over makes of one, papers that show it, and the WORD MACHINE."""

from evenwheels.alike import are_names, code_of, least_names, machine_named
from evenwheels.crossing import machine_of_rounds, need_rounds, rounds
from evenwheels.errors import BadPaper, Never, OutOfPlace, TooGreat
from evenwheels.fractions import is_tuple_of, is_whole
from evenwheels.machines import MOST_WHEELS, all_numbers_below, machine_of, need_machine, need_wheel
from evenwheels.web import chain_from, ways_by_spot

_MOST_OF_WORDS = 3


def are_one_web(machine, other):
    """Whether two MACHINES have ONE WEB."""
    need_machine(machine)
    need_machine(other)
    return _are_one_web(machine, other)


def cross_paper(machine, other):
    """The CROSS PAPER of the fewest TOUCHES, of these the least, with the least NAMES."""
    need_machine(machine)
    need_machine(other)
    if not _are_one_web(machine, other):
        raise Never("they have two webs")
    for numbers, made in _all_crossed(machine):
        names = least_names(made, other)
        if names is not None:
            return (numbers, names)
    raise Never("crossed over at no touches it is the other one")


def check_cross(machine, other, paper):
    """None, or BadPaper of what is no CROSS PAPER of two MACHINES; of anything."""
    need_machine(machine)
    need_machine(other)
    if not is_tuple_of(paper, 2):
        raise BadPaper(None)
    numbers, names = paper
    try:
        made = machine_of_rounds(machine, need_rounds(machine, numbers))
    except (OutOfPlace, TooGreat):
        raise BadPaper("touches") from None
    if not are_names(made, names):
        raise BadPaper("names")
    if machine_named(made, names) != other:
        raise BadPaper("other")


def family(machine):
    """The first tuples of TOUCHES of all MACHINES, no two ALIKE, that crossing over makes: a list, fewer ahead."""
    need_machine(machine)
    found = []
    known = {}
    for numbers, made in _all_crossed(machine):
        code = code_of(made)
        if code not in known:
            known[code] = True
            found.append(numbers)
    return found


def count_of_rounds(machine, wheel):
    """R of a wheel's LOT: of how many lots of its TOUCHES, CROSSED OVER there, it is one wheel."""
    need_wheel(machine, wheel)
    lot = chain_from(machine, wheel)
    touches = [number for number, pair in enumerate(machine[1]) if pair[0][0] in lot]
    square = [[0] * len(touches) for _ in touches]
    for at in range(len(touches)):
        square[at][at] = 2
    for begin, _, goal, _ in ways_by_spot(machine).values():
        if begin in touches:
            square[touches.index(goal)][touches.index(begin)] -= 1
    return _determinant([row[1:] for row in square[1:]])


def word_machine(many):
    """The WORD MACHINE of words of one sign more than many, of which each touches the one with another first sign."""
    if not is_whole(many) or not 0 <= many <= _MOST_OF_WORDS:
        raise OutOfPlace("no whole number from 0 to 3")
    first = 1 << many
    places = {}
    counts = []
    for word in range(2 * first):
        if word not in places:
            here = word
            count = 0
            while here not in places:
                places[here] = (len(counts), count)
                count += 1
                # The word that rolls on to this one has its last sign first.
                here = here // 2 + first * (here & 1)
            counts.append(count)
    return machine_of(tuple(counts), [(places[word], places[word + first]) for word in range(first)])


def _all_crossed(machine):
    # Pairs of a tuple of TOUCHES and what is CROSSED OVER there; what isn't a MACHINE is left out.
    found = []
    for numbers in all_numbers_below(len(machine[1])):
        gone = rounds(machine, numbers)
        if len(gone) <= MOST_WHEELS:
            found.append((numbers, machine_of_rounds(machine, gone)))
    return found


def _determinant(square):
    # All that stands at any step is a determinant, so each division leaves nothing over; and none by which it divides
    # is nought, as no lot of TOUCHES but all of a LOT keeps to itself all WAYS that leave it.
    rows = square
    ahead = 1
    while len(rows) > 0:
        first = rows[0]
        rows = [[(first[0] * worth - row[0] * beside) // ahead for worth, beside in zip(row[1:], first[1:])]
                for row in rows[1:]]
        ahead = first[0]
    return ahead


def _are_one_web(machine, other):
    if len(machine[1]) != len(other[1]) or _lone_counts(machine) != _lone_counts(other):
        return False
    here = _ways_out(machine)
    there = _ways_out(other)
    told = {}
    for touch in range(len(here)):
        if touch not in told:
            found = _any_numbering(here, there, touch, list(told.values()))
            if found is None:
                return False
            told.update(found)
    return True


def _lone_counts(machine):
    touching = {spot[0]: True for pair in machine[1] for spot in pair}
    return sorted([count for wheel, count in enumerate(machine[0]) if wheel not in touching])


def _ways_out(machine):
    # For each TOUCH a list of pairs of GOAL and GAP, of the two WAYS that leave it.
    found = [[] for _ in machine[1]]
    for begin, _, goal, gap in ways_by_spot(machine).values():
        found[begin].append((goal, gap))
    return found


def _any_numbering(here, there, touch, taken):
    # Numbers there of all TOUCHES of one's LOT, a dict; None without.
    for goal in range(len(there)):
        if goal not in taken:
            found = _numbered(here, there, {touch: goal}, touch)
            if found is not None:
                return found
    return None


def _numbered(here, there, told, newest):
    # As _any_numbering, by what is told of some of them, all but the newest of which are known to have the same WAYS.
    if not _have_same_ways(here, there, told, newest):
        return None
    for touch in told:
        for goal, gap in here[touch]:
            if goal not in told:
                return _numbered_on(here, there, told, touch, (goal, gap))
    return told


def _numbered_on(here, there, told, touch, way):
    goal, gap = way
    for beyond, across in there[told[touch]]:
        if across == gap and beyond not in list(told.values()):
            more = dict(told)
            more[goal] = beyond
            found = _numbered(here, there, more, goal)
            if found is not None:
                return found
    return None


def _have_same_ways(here, there, told, newest):
    for touch, goal in told.items():
        if _gaps(here, newest, touch) != _gaps(there, told[newest], goal):
            return False
        if _gaps(here, touch, newest) != _gaps(there, goal, told[newest]):
            return False
    return True


def _gaps(ways, begin, end):
    return sorted([gap for goal, gap in ways[begin] if goal == end])
