"""LINKS, and CLASS PAPERS: made, let by, and refused."""

import random

from evenwheels.classes import class_of
from evenwheels.errors import BadMachine, BadPaper, BadSpot, OutOfPlace
from evenwheels.links import check_class, class_paper, linked
from evenwheels.machines import spots
from evenwheels.shifts import are_shifts, shifts
from evenwheels.web import lot_of
from tests.support import (
    BACKWARD, CHAIN, DEEP_LIST, DEEP_TUPLE, HALF_ROUND, LATEST, LONELY, MACHINES, MOST_CELLS_ALONE, ONE_CELL,
    SEVERAL_LOTS, TWICE, TWO_WHEELS, WINDING, Same, WheelTest, odd_things, plain_classes, some_machines, within_itself,
)

NO_SPOTS = [(0, 4), (2, 0), (-1, 0), (0, -1), [0, 0], (False, 0), (0, True), (0, 0, 0), (0,), (0, 1.0)]


def rolled_on(machine, spot, beats):
    """Where what stands at a spot stands behind so many beats of only rolling, one by one."""
    wheel, place = spot
    for _ in range(beats):
        place = place - 1 if place > 0 else machine[0][wheel] - 1
    return (wheel, place)


def plain_linked(machine, spot, link):
    """The start from which one rolls to the other spot of the touch in as many beats; None of no link."""
    at, beats = link
    if rolled_on(machine, spot, beats) != at:
        return None
    for one, other in machine[1]:
        for here, across in ((one, other), (other, one)):
            if here == at:
                return next(start for start in spots(machine) if rolled_on(machine, start, beats) == across)
    return None


# Of fifteen wheels of two nine in a row; one wheel of thirty of whose touches all but one go by two.
CHAIN_OF_TWOS = ((2,) * 15, tuple(((wheel, 0), (wheel + 1, 1)) for wheel in range(8)))
CROSSWISE = ((30,), (((0, 0), (0, 2)), ((0, 1), (0, 28)), ((0, 4), (0, 6)), ((0, 8), (0, 10)), ((0, 12), (0, 14)),
                     ((0, 16), (0, 18)), ((0, 20), (0, 22)), ((0, 24), (0, 26))))


def plain_links_from(machine, begin):
    """For each spot of its class the links to it, by a search that looks at every beat."""
    across = {spot: other for pair in machine[1] for spot, other in (pair, pair[::-1])}
    told = {begin: ()}
    latest = [begin]
    while latest:
        found = []
        for wheel, place in latest:
            for beats in range(221):
                at = (wheel, (place - beats) % machine[0][wheel])
                if at in across:
                    beyond, beside = across[at]
                    there = (beyond, (beside + beats) % machine[0][beyond])
                    if there not in told:
                        told[there] = told[(wheel, place)] + ((at, beats),)
                        found.append(there)
        latest = found
    return told


class Linked(WheelTest):
    def test_by_hand(self):
        self.assertEqual(linked(TWO_WHEELS, (0, 0), ((0, 0), 0)), (1, 0))
        self.assertEqual(linked(TWO_WHEELS, (0, 0), ((0, 0), 2)), (1, 2))
        self.assertEqual(linked(TWO_WHEELS, (0, 0), ((0, 0), 4)), (1, 1))
        self.assertEqual(linked(TWO_WHEELS, (0, 1), ((0, 0), 1)), (1, 1))
        self.assertEqual(linked(TWO_WHEELS, (1, 2), ((1, 0), 5)), (0, 1))
        self.assertEqual(linked(HALF_ROUND, (0, 0), ((0, 4), 2)), (0, 3))
        self.assertEqual(linked(HALF_ROUND, (0, 0), ((0, 1), 5)), (0, 3))
        self.assertEqual(linked(TWICE, (1, 5), ((1, 1), 4)), (0, 0))
        self.assertEqual(linked(TWICE, (1, 5), ((1, 3), 2)), (0, 0))
        self.assertEqual(linked(TWICE, (1, 5), ((1, 3), 8)), (0, 2))

    def test_the_first_and_the_last_beat(self):
        self.assertEqual(linked(TWO_WHEELS, (0, 0), ((0, 0), 300)), (1, 0))
        self.assertEqual(linked(TWO_WHEELS, (0, 1), ((0, 0), 299)), (1, 2))
        for beats in (302, 304, 600, -2, -300, 10 ** 500 * 2, -10 ** 500 * 2):
            self.assert_text(OutOfPlace, linked, TWO_WHEELS, (0, 0), ((0, 0), beats))
        self.assert_text(OutOfPlace, linked, TWO_WHEELS, (0, 1), ((0, 0), 301))

    def test_just_as_a_second_telling(self):
        chance = random.Random(60)
        for machine in some_machines():
            touching = [spot for pair in machine[1] for spot in pair]
            for _ in range(40 if touching else 0):
                spot, at, beats = chance.choice(spots(machine)), chance.choice(touching), chance.randint(0, 60)
                told = plain_linked(machine, spot, (at, beats))
                if told is None:
                    self.assert_text(OutOfPlace, linked, machine, spot, (at, beats))
                else:
                    self.assertEqual(linked(machine, spot, (at, beats)), told)
                    self.assertEqual(class_of(machine, told), class_of(machine, spot))

    def test_out_of_place(self):
        others = [((0, 0), 1), ((1, 0), 0), ((0, 1), 1), ((1, 1), 2), ((0, 0),), ((0, 0), 0, 0), [(0, 0), 0], (0, 0),
                  ((0, 0), True), ((0, 0), False), ((0, 0), 0.0), ((0, 0), "0"), ((0, 0), None), ([0, 0], 0),
                  ((0, False), 0), ((False, 0), 0), ((0, 0.0), 0), ((0, 0, 0), 0), ((9, 9), 0), ((-1, 0), 0),
                  (None, 0), (DEEP_TUPLE, 0), (within_itself(), 0), ((DEEP_TUPLE, 0), 0), ((0, 0), Same()),
                  (Same(), 0), "ab", {(0, 0): 0}, DEEP_LIST, (0, (0, 0))]
        for link in others + odd_things():
            self.assert_text(OutOfPlace, linked, TWO_WHEELS, (0, 0), link)

    def test_a_spot_of_no_touch(self):
        self.assert_text(OutOfPlace, linked, HALF_ROUND, (0, 0), ((0, 0), 0))
        self.assert_text(OutOfPlace, linked, HALF_ROUND, (0, 0), ((0, 5), 1))
        self.assert_text(OutOfPlace, linked, LONELY, (0, 0), ((0, 0), 0))
        self.assert_text(OutOfPlace, linked, SEVERAL_LOTS, (3, 0), ((3, 0), 0))

    def test_bad_spots_ahead_of_links(self):
        for thing in NO_SPOTS + odd_things():
            self.assert_place(BadSpot, None, linked, TWICE, thing, ((0, 0), 0))
            self.assert_place(BadSpot, None, linked, TWICE, thing, None)


class Made(WheelTest):
    def test_let_by_and_tells_what_is(self):
        for machine in MACHINES + [LATEST]:
            class_at = {spot: number for number, members in enumerate(plain_classes(machine)) for spot in members}
            for spot in spots(machine)[::3]:
                for other in spots(machine):
                    paper = class_paper(machine, spot, other)
                    told = check_class(machine, spot, other, paper)
                    self.assertIs(told, class_at[spot] == class_at[other])

    def test_of_many_machines(self):
        chance = random.Random(61)
        for machine in some_machines():
            for _ in range(6):
                spot, other = chance.choice(spots(machine)), chance.choice(spots(machine))
                paper = class_paper(machine, spot, other)
                told = check_class(machine, spot, other, paper)
                self.assertIs(told, class_of(machine, spot) == class_of(machine, other))
                self.assertIs(told, paper[0] == "one")

    def test_form(self):
        chance = random.Random(62)
        for machine in some_machines():
            for _ in range(4):
                spot, other = chance.choice(spots(machine)), chance.choice(spots(machine))
                paper = class_paper(machine, spot, other)
                self.assertIs(type(paper), tuple)
                if paper[0] == "one":
                    word, links = paper
                    self.assertIs(type(links), tuple)
                    here = spot
                    for link in links:
                        here = linked(machine, here, link)
                    self.assertEqual(here, other)
                elif paper[0] == "lots":
                    word, wheels = paper
                    self.assertEqual((type(wheels), sorted(wheels)), (tuple, list(wheels)))
                    self.assertNotEqual(spot[0] in wheels, other[0] in wheels)
                    self.assertNotEqual(lot_of(machine, spot[0]), lot_of(machine, other[0]))
                else:
                    word, modulo, told = paper
                    self.assertEqual(word, "shifts")
                    self.assertTrue(are_shifts(machine, spot[0], modulo, told))
                    self.assertEqual(lot_of(machine, spot[0]), lot_of(machine, other[0]))

    def test_a_spot_and_itself(self):
        for machine in MACHINES:
            for spot in spots(machine):
                paper = class_paper(machine, spot, spot)
                self.assertEqual(paper[0], "one")
                self.assertIs(check_class(machine, spot, spot, paper), True)
                self.assertIs(check_class(machine, spot, spot, ("one", ())), True)

    def test_of_which_sort(self):
        self.assertEqual(class_paper(TWO_WHEELS, (0, 0), (0, 1))[0], "one")
        self.assertEqual(class_paper(HALF_ROUND, (0, 0), (0, 3))[0], "one")
        self.assertEqual(class_paper(HALF_ROUND, (0, 0), (0, 2))[0], "shifts")
        self.assertEqual(class_paper(LONELY, (0, 1), (0, 4))[0], "shifts")
        self.assertEqual(class_paper(SEVERAL_LOTS, (0, 0), (2, 0))[0], "shifts")
        self.assertEqual(class_paper(SEVERAL_LOTS, (0, 0), (2, 1))[0], "one")
        self.assertEqual(class_paper(SEVERAL_LOTS, (0, 0), (3, 0))[0], "lots")
        self.assertEqual(class_paper(SEVERAL_LOTS, (3, 0), (4, 0))[0], "lots")


class WhichPaper(WheelTest):
    """Just the links that a look at every beat of every spot tells: as few as can be, the first of these."""

    def test_by_every_beat(self):
        chance = random.Random(63)
        for machine in MACHINES + [LATEST, CHAIN_OF_TWOS, CROSSWISE] + some_machines()[::5]:
            begin = chance.choice(spots(machine))
            told = plain_links_from(machine, begin)
            for other in spots(machine):
                paper = class_paper(machine, begin, other)
                self.assertEqual(paper[0] == "one", other in told)
                if other in told:
                    self.assertEqual(paper, ("one", told[other]))

    def test_by_hand(self):
        self.assertEqual(class_paper(TWO_WHEELS, (0, 1), (0, 0)), ("one", (((0, 0), 1), ((1, 0), 4))))
        self.assertEqual(class_paper(LATEST, (0, 4), (1, 11)), ("one", (((0, 4), 0),)))
        self.assertEqual(class_paper(LATEST, (0, 5), (1, 11)), ("one", (((0, 4), 170),)))
        self.assertEqual(class_paper(CHAIN_OF_TWOS, (0, 0), (14, 1)), ("lots", tuple(range(9))))
        self.assertEqual(class_paper(CROSSWISE, (0, 0), (0, 29)), ("one", plain_links_from(CROSSWISE, (0, 0))[(0, 29)]))
        self.assertEqual(class_paper(WINDING, (0, 0), (2, 2)), ("shifts", 4, shifts(WINDING, 0, 4)))


class LetBy(WheelTest):
    def test_links(self):
        for links, other in (((), (0, 0)), ((((0, 0), 0),), (1, 0)), ((((0, 0), 2),), (1, 2)),
                             ((((0, 0), 2), ((1, 0), 5)), (0, 1)), ((((0, 0), 0), ((1, 0), 0)) * 60, (0, 0)),
                             ((((0, 0), 298), ((1, 0), 1)), (0, 1))):
            self.assertIs(check_class(TWO_WHEELS, (0, 0), other, ("one", links)), True)

    def test_wheels(self):
        for wheels in ((0, 2), (0, 2, 3), (1, 4), (1, 3, 4)):
            self.assertIs(check_class(SEVERAL_LOTS, (0, 0), (1, 3), ("lots", wheels)), False)
            self.assertIs(check_class(SEVERAL_LOTS, (4, 7), (2, 5), ("lots", wheels)), False)
        for wheels in ((3,), (0, 2), (0, 1, 2, 4), (1, 3, 4)):
            self.assertIs(check_class(SEVERAL_LOTS, (3, 1), (2, 5), ("lots", wheels)), False)

    def test_shifts(self):
        self.assertIs(check_class(HALF_ROUND, (0, 0), (0, 1), ("shifts", 3, (0,))), False)
        self.assertIs(check_class(HALF_ROUND, (0, 0), (0, 5), ("shifts", 3, (0,))), False)
        self.assertIs(check_class(LONELY, (0, 0), (0, 4), ("shifts", 5, (0,))), False)
        self.assertIs(check_class(TWICE, (0, 0), (1, 0), ("shifts", 2, (0, 1))), False)
        self.assertIs(check_class(TWICE, (0, 1), (1, 5), ("shifts", 2, (0, 1))), False)
        self.assertIs(check_class(SEVERAL_LOTS, (4, 0), (1, 1), ("shifts", 4, (0, 3))), False)
        self.assertIs(check_class(SEVERAL_LOTS, (4, 0), (1, 2), ("shifts", 2, (0, 1))), False)
        self.assertIs(check_class(((12,), (((0, 0), (0, 6)),)), (0, 1), (0, 3), ("shifts", 3, (0,))), False)

    def test_shifts_modulo_what_divides_g(self):
        for machine in (CHAIN, WINDING, BACKWARD, TWICE, SEVERAL_LOTS, ((12, 12), (((0, 5), (1, 5)),))):
            chance = random.Random(63)
            for _ in range(30):
                spot, other = chance.choice(spots(machine)), chance.choice(spots(machine))
                if other[0] not in lot_of(machine, spot[0]):
                    continue
                for modulo in (1, 2, 3, 4, 6, 12):
                    told = shifts(machine, spot[0], modulo)
                    if told is None:
                        continue
                    lot = lot_of(machine, spot[0])
                    numbers = [told[lot.index(one[0])] + one[1] for one in (spot, other)]
                    if (numbers[0] - numbers[1]) % modulo:
                        self.assertIs(check_class(machine, spot, other, ("shifts", modulo, told)), False)
                    else:
                        self.assert_place(
                            BadPaper, "alike", check_class, machine, spot, other, ("shifts", modulo, told))


class Refused(WheelTest):
    def refused(self, place, paper, machine=TWICE, spot=(0, 0), other=(1, 1)):
        self.assert_place(BadPaper, place, check_class, machine, spot, other, paper)

    def test_none(self):
        others = [(), ("one",), ("lots",), ("shifts",), ("shifts", 2), ("one", (), ()), ("lots", (0,), ()),
                  ("shifts", 2, (0, 1), ()), ("two", ()), ("One", ()), ("", ()), (b"one", ()), (None, ()), (1, ()),
                  (("one",), ()), (["one"], ()), ["one", ()], ["shifts", 2, (0, 1)], "one", {"one": ()},
                  ("one", []), ("one", None), ("one", "ab"), ("one", {}), ("lots", [0]), ("lots", None), ("lots", 0),
                  ("lots", range(2)), ("one", DEEP_LIST), (DEEP_TUPLE, ()), (Same(), ()), (Same(), 2, (0, 1)),
                  ("shifts", (0, 1)), ("one", 2, (0, 1)), ("lots", 2, (0, 1)), ("links", ()), ("wheels", ())]
        for paper in others + odd_things():
            self.refused(None, paper)
        for thing in odd_things():
            if type(thing) is not tuple:
                self.refused(None, ("one", thing))
                self.refused(None, ("lots", thing))

    def test_links(self):
        good = (((0, 0), 0), ((1, 1), 0), ((0, 0), 0))
        self.assertIs(check_class(TWICE, (0, 0), (1, 1), ("one", good)), True)
        others = [((0, 0), 1), ((1, 1), 0), ((0, 1), 0), ((0, 0), 304), ((0, 0), -4), ((0, 0), False), [(0, 0), 0],
                  ((0, 0),), ((0, 0), 0, 0), ([0, 0], 0), DEEP_TUPLE, ((0, 2), 4), 0]
        for link in others + odd_things():
            self.refused(("link", 0), ("one", (link,)))
            self.refused(("link", 0), ("one", (link, None, None)))
            self.refused(("link", 2), ("one", good[:2] + (link,)))
            if link != ((1, 1), 0):
                self.refused(("link", 3), ("one", good + (link, None)))
        self.refused(("link", 1), ("one", good[:1] + good[:1]))

    def test_links_that_lead_elsewhere(self):
        self.refused(("link", 0), ("one", ()))
        self.refused(("link", 1), ("one", (((0, 0), 4),)))
        self.refused(("link", 2), ("one", (((0, 0), 0), ((1, 1), 0))))
        self.refused(("link", 120), ("one", (((0, 0), 0), ((1, 1), 0)) * 60))
        self.refused(("link", 1), ("one", (((0, 0), 0),)), TWICE, (0, 0), (0, 0))
        self.refused(("link", 0), ("one", ()), SEVERAL_LOTS, (0, 0), (3, 0))
        self.refused(("link", 0), ("one", ()), LONELY, (0, 0), (0, 1))
        self.refused(("link", 0), ("one", (((0, 0), 0),)), LONELY, (0, 0), (0, 0))

    def test_wheels(self):
        one, other = (0, 0), (1, 3)
        self.assertIs(check_class(SEVERAL_LOTS, one, other, ("lots", (0, 2))), False)
        others = [(), (0,), (2,), (1,), (4,), (3,), (2, 0), (0, 0, 2), (0, 2, 2), (0, 1, 2, 4), (0, 1, 2, 3, 4),
                  (0, 2, 5), (0, 2, -1), (-1, 0, 2), (False, 2), (0, 2, True), (0, 2.0), (0, "2"), ("0", "2"),
                  (0, 2, None), ((0, 2),), (0, 2, 4), (0, 1, 2), (1, 2, 4), (0, 2, 10 ** 500), (DEEP_TUPLE,),
                  (within_itself(), 2)]
        for wheels in others + [thing for thing in odd_things() if type(thing) is tuple]:
            self.refused("wheels", ("lots", wheels), SEVERAL_LOTS, one, other)
            self.refused("wheels", ("lots", wheels), SEVERAL_LOTS, other, one)
        for wheels in ((0, 2), (1, 4), (3,), ()):
            self.refused("wheels", ("lots", wheels), SEVERAL_LOTS, (0, 0), (2, 0))
            self.refused("wheels", ("lots", wheels), SEVERAL_LOTS, (0, 0), (0, 0))
        self.refused("wheels", ("lots", (0,)))
        self.refused("wheels", ("lots", (1,)))

    def test_modulo(self):
        for modulo in [0, -1, -2, True, 2.0, "2", None, (2,), [2], -10 ** 500] + odd_things():
            self.refused("modulo", ("shifts", modulo, (0, 1)), TWICE, (0, 0), (1, 0))
            self.refused("modulo", ("shifts", modulo, None), TWICE, (0, 0), (1, 0))

    def test_shifts(self):
        others = [(0, 0), (1, 0), (1, 1), (0,), (), (0, 1, 0), [0, 1], (0, True), (False, 1), (0, 1.0), (0, -1), (0, 3),
                  (2, 1), ("0", "1"), None, 1, DEEP_TUPLE, (DEEP_TUPLE, 1)]
        for told in others + odd_things():
            self.refused("shifts", ("shifts", 2, told), TWICE, (0, 0), (1, 0))
        for modulo in (3, 4, 6, 10 ** 500):
            self.refused("shifts", ("shifts", modulo, (0, 1)), TWICE, (0, 0), (1, 0))
        self.refused("shifts", ("shifts", 5, (0, 0)), TWO_WHEELS, (0, 0), (1, 1))

    def test_shifts_where_the_other_is_of_another_lot(self):
        self.refused("shifts", ("shifts", 3, (0, 2)), SEVERAL_LOTS, (0, 0), (1, 1))
        self.refused("shifts", ("shifts", 4, (0, 3)), SEVERAL_LOTS, (1, 1), (0, 0))
        self.refused("shifts", ("shifts", 2, (0,)), SEVERAL_LOTS, (3, 0), (0, 1))
        self.refused("shifts", ("shifts", 3, (0, 2)), SEVERAL_LOTS, (3, 0), (0, 1))

    def test_alike(self):
        self.refused("alike", ("shifts", 2, (0, 1)))
        self.refused("alike", ("shifts", 1, (0, 0)))
        self.refused("alike", ("shifts", 1, (0, 0)), TWICE, (0, 0), (1, 0))
        self.refused("alike", ("shifts", 2, (0, 1)), TWICE, (0, 1), (1, 4))
        self.refused("alike", ("shifts", 3, (0,)), HALF_ROUND, (0, 1), (0, 4))
        self.refused("alike", ("shifts", 5, (0,)), LONELY, (0, 1), (0, 1))
        self.refused("alike", ("shifts", 2, (0, 1)), SEVERAL_LOTS, (4, 0), (4, 2))

    def test_a_paper_of_others_never_tells_what_is_not(self):
        chance = random.Random(64)
        for machine in (TWICE, SEVERAL_LOTS, HALF_ROUND, CHAIN, WINDING):
            for _ in range(60):
                one, other, third, fourth = [chance.choice(spots(machine)) for _ in range(4)]
                try:
                    told = check_class(machine, third, fourth, class_paper(machine, one, other))
                except BadPaper:
                    continue
                self.assertIs(told, class_of(machine, third) == class_of(machine, fourth))

    def test_order(self):
        self.refused(None, ("lots", [None]))
        self.refused(("link", 0), ("one", (None, (0,))))
        self.refused("modulo", ("shifts", 0, None), SEVERAL_LOTS, (0, 0), (1, 0))
        self.refused("shifts", ("shifts", 1, None))
        self.assert_place(BadSpot, None, check_class, TWICE, None, None, None)
        self.assert_place(BadSpot, None, check_class, TWICE, (0, 0), None, None)

    def test_bad_spots(self):
        for thing in NO_SPOTS + odd_things():
            for call, rest in ((class_paper, ()), (check_class, (("one", ()),)), (check_class, (None,))):
                self.assert_place(BadSpot, None, call, TWICE, thing, (0, 0), *rest)
                self.assert_place(BadSpot, None, call, TWICE, (0, 0), thing, *rest)

    def test_no_machine_ahead_of_all(self):
        for thing in odd_things() + [((0,), ()), ((2, 3), [])]:
            for call, many in ((linked, 2), (class_paper, 2), (check_class, 3)):
                with self.assertRaises(BadMachine):
                    call(thing, *[None] * many)
        for call, many in ((linked, 2), (class_paper, 2), (check_class, 3)):
            self.assert_place(BadMachine, "counts", call, ((), ()), *[None] * many)

    def test_by_names_and_told_again(self):
        self.assertEqual(linked(machine=TWO_WHEELS, spot=(0, 0), link=((0, 0), 2)), (1, 2))
        paper = class_paper(machine=TWICE, spot=(0, 0), other=(1, 0))
        self.assertIs(check_class(machine=TWICE, spot=(0, 0), other=(1, 0), paper=paper), False)
        for machine in MACHINES + [MOST_CELLS_ALONE, LATEST, ONE_CELL]:
            last = spots(machine)[-1]
            self.assert_told_again(class_paper, machine, (0, 0), last)
            self.assert_told_again(check_class, machine, (0, 0), last, class_paper(machine, (0, 0), last))
        self.assert_told_again(linked, TWO_WHEELS, (0, 0), ((0, 0), 2))
