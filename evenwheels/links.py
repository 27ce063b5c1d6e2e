"""LINKS from SPOT to SPOT of one CLASS, and CLASS PAPERS that show of two SPOTS whether they are of one."""

from evenwheels.classes import class_of
from evenwheels.errors import BadPaper, OutOfPlace
from evenwheels.fractions import is_tuple_of, is_whole
from evenwheels.loads import need_beats
from evenwheels.machines import are_numbers_below, is_spot_of, need_spot
from evenwheels.shifts import are_shifts, g_of, shifts
from evenwheels.web import across_touches, lot_of, rolled

# The most that two COUNTS of at most 30 cells together take to meet again as at first: 13 times 17.
_ALL_REPEATS = 221


def linked(machine, spot, link):
    """Where a LINK from a SPOT leads; OutOfPlace of what is none, of anything."""
    need_spot(machine, spot)
    if not is_tuple_of(link, 2):
        raise OutOfPlace("a link is a pair")
    at, beats = link
    across = across_touches(machine)
    if not is_spot_of(machine[0], at) or at not in across:
        raise OutOfPlace("no spot of a touch")
    need_beats(beats)
    if rolled(machine, spot, beats) != at:
        raise OutOfPlace("not where that would stand then")
    return rolled(machine, across[at], -beats)


def class_paper(machine, spot, other):
    """A CLASS PAPER of two SPOTS; of one CLASS by as few LINKS as can be."""
    need_spot(machine, spot)
    need_spot(machine, other)
    if class_of(machine, spot) == class_of(machine, other):
        return ("one", _links_between(machine, spot, other))
    lot = lot_of(machine, spot[0])
    if other[0] not in lot:
        return ("lots", lot)
    greatest = g_of(machine, spot[0])
    return ("shifts", greatest, shifts(machine, spot[0], greatest))


def check_class(machine, spot, other, paper):
    """True where a CLASS PAPER shows that both are of one CLASS, False where of two; BadPaper of what is none."""
    need_spot(machine, spot)
    need_spot(machine, other)
    word = _word_of(paper)
    if word == "one":
        _check_links(machine, spot, other, paper[1])
    elif word == "lots":
        _check_wheels(machine, spot, other, paper[1])
    else:
        _check_shifts(machine, spot, other, paper)
    return word == "one"


def _links_between(machine, spot, other):
    across = across_touches(machine)
    chains = {spot: ()}
    latest = [spot]
    # So many rounds are enough: each one finds a SPOT at the least, until all of the CLASS are found.
    for _ in range(sum(machine[0])):
        found = []
        for here in latest:
            for link in _links_from(machine, across, here):
                there = rolled(machine, across[link[0]], -link[1])
                if there not in chains:
                    chains[there] = chains[here] + (link,)
                    found.append(there)
        latest = found
    return chains[other]


def _links_from(machine, across, spot):
    stands = [(rolled(machine, spot, beats), beats) for beats in range(_ALL_REPEATS)]
    return [link for link in stands if link[0] in across]


def _word_of(paper):
    if is_tuple_of(paper, 2):
        word, told = paper
        if type(word) == str and word in ("one", "lots") and type(told) == tuple:
            return word
    if is_tuple_of(paper, 3):
        word, _, _ = paper
        if type(word) == str and word == "shifts":
            return word
    raise BadPaper(None)


def _check_links(machine, spot, other, links):
    here = spot
    for number, link in enumerate(links):
        try:
            here = linked(machine, here, link)
        except OutOfPlace:
            raise BadPaper(("link", number)) from None
    if here != other:
        raise BadPaper(("link", len(links)))


def _check_wheels(machine, spot, other, wheels):
    if not are_numbers_below(len(machine[0]), wheels):
        raise BadPaper("wheels")
    if (spot[0] in wheels) == (other[0] in wheels):
        raise BadPaper("wheels")
    for one, beside in machine[1]:
        if (one[0] in wheels) != (beside[0] in wheels):
            raise BadPaper("wheels")


def _check_shifts(machine, spot, other, paper):
    _, modulo, told = paper
    if not is_whole(modulo) or modulo < 1:
        raise BadPaper("modulo")
    lot = lot_of(machine, spot[0])
    if other[0] not in lot or not are_shifts(machine, spot[0], modulo, told):
        raise BadPaper("shifts")
    by_wheel = {wheel: shift for wheel, shift in zip(lot, told)}
    apart = by_wheel[spot[0]] + spot[1] - by_wheel[other[0]] - other[1]
    if apart % modulo == 0:
        raise BadPaper("alike")
