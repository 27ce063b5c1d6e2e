"""LINKS from SPOT to SPOT of one CLASS, and CLASS PAPERS that show of two SPOTS whether they are of one."""

from math import lcm

from evenwheels.errors import BadPaper, OutOfPlace
from evenwheels.fractions import is_tuple_of, is_whole
from evenwheels.loads import need_beats
from evenwheels.machines import are_numbers_below, is_spot_of, need_machine, need_spot, need_spot_on
from evenwheels.shifts import are_of_one_class, fit_as_shifts, wheels_told
from evenwheels.web import across_touches, chain_from, rolled


def linked(machine, spot, link):
    """Where a LINK from a SPOT leads; OutOfPlace of what is none, of anything."""
    need_spot(machine, spot)
    return _linked(machine, across_touches(machine), spot, link)


def class_paper(machine, spot, other):
    """A CLASS PAPER of two SPOTS; of one CLASS by as few LINKS as can be."""
    _need_spots(machine, spot, other)
    told = wheels_told(machine)
    if are_of_one_class(told, spot, other):
        return ("one", _links_between(machine, spot, other))
    lot, _, greatest = told[spot[0]]
    members = [wheel for wheel, (number, _, _) in enumerate(told) if number == lot]
    if other[0] not in members:
        return ("lots", tuple(members))
    return ("shifts", greatest, tuple([told[wheel][1] for wheel in members]))


def check_class(machine, spot, other, paper):
    """True where a CLASS PAPER shows that both are of one CLASS, False where of two; BadPaper of what is none."""
    _need_spots(machine, spot, other)
    word = _word_of(paper)
    if word == "one":
        _check_links(machine, spot, other, paper[1])
    elif word == "lots":
        _check_wheels(machine, spot, other, paper[1])
    else:
        _check_shifts(machine, spot, other, paper)
    return word == "one"


def _need_spots(machine, spot, other):
    need_machine(machine)
    need_spot_on(machine[0], spot)
    need_spot_on(machine[0], other)


def _linked(machine, across, spot, link):
    if not is_tuple_of(link, 2):
        raise OutOfPlace("a link is a pair")
    at, beats = link
    if not is_spot_of(machine[0], at) or at not in across:
        raise OutOfPlace("no spot of a touch")
    need_beats(beats)
    if rolled(machine, spot, beats) != at:
        raise OutOfPlace("not where that would stand then")
    return rolled(machine, across[at], -beats)


def _links_between(machine, spot, other):
    touching = _touching(machine)
    chains = {spot: ()}
    latest = [spot]
    # So many rounds are enough: each one finds a SPOT at the least, until the other one is found.
    for _ in range(sum(machine[0])):
        found = []
        for here in latest:
            for beats, at, there in _links_from(machine, touching, here):
                if there not in chains:
                    chains[there] = chains[here] + ((at, beats),)
                    found.append(there)
        if other in chains:
            break
        latest = found
    return chains[other]


def _touching(machine):
    # For each wheel its SPOTS of TOUCHES, the other ones of these, and the beats behind which all repeats there.
    counts = machine[0]
    found = [[] for _ in counts]
    for spot, other in across_touches(machine).items():
        found[spot[0]].append((spot, other, lcm(counts[spot[0]], counts[other[0]])))
    return found


def _links_from(machine, touching, here):
    # Beat, SPOT and where that LINK leads, by their beats; later ones lead nowhere else.
    wheel, place = here
    count = machine[0][wheel]
    found = []
    for at, (across, beside), repeats in touching[wheel]:
        for beats in range((place - at[1]) % count, repeats, count):
            found.append((beats, at, (across, (beside + beats) % machine[0][across])))
    return sorted(found)


def _word_of(paper):
    if is_tuple_of(paper, 2):
        word, told = paper
        if type(word) == str and word in ("one", "lots") and type(told) == tuple:
            return word
    if is_tuple_of(paper, 3):
        word, _, _ = paper
        if type(word) == str and word == "shifts":
            return word
    raise BadPaper(None)


def _check_links(machine, spot, other, links):
    across = across_touches(machine)
    here = spot
    for number, link in enumerate(links):
        try:
            here = _linked(machine, across, here, link)
        except OutOfPlace:
            raise BadPaper(("link", number)) from None
    if here != other:
        raise BadPaper(("link", len(links)))


def _check_wheels(machine, spot, other, wheels):
    if not are_numbers_below(len(machine[0]), wheels):
        raise BadPaper("wheels")
    if (spot[0] in wheels) == (other[0] in wheels):
        raise BadPaper("wheels")
    for one, beside in machine[1]:
        if (one[0] in wheels) != (beside[0] in wheels):
            raise BadPaper("wheels")


def _check_shifts(machine, spot, other, paper):
    _, modulo, told = paper
    if not is_whole(modulo) or modulo < 1:
        raise BadPaper("modulo")
    lot = sorted(chain_from(machine, spot[0]))
    if other[0] not in lot or not fit_as_shifts(machine, lot, modulo, told):
        raise BadPaper("shifts")
    by_wheel = {wheel: shift for wheel, shift in zip(lot, told)}
    apart = by_wheel[spot[0]] + spot[1] - by_wheel[other[0]] - other[1]
    if apart % modulo == 0:
        raise BadPaper("alike")
