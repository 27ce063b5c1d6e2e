"""PASTS: whether there is one, how deep, the LEAST, and papers that there is none."""

import random
from fractions import Fraction

from evenwheels.ends import evened, is_even
from evenwheels.errors import BadLoad, BadPaper, Never, OutOfPlace
from evenwheels.loads import added, beat, behind, empty, is_load, one_at, scaled
from evenwheels.machines import cells, spots
from evenwheels.mirror import mirror, paired, turned
from evenwheels.pasts import check_no_past, depth, has_past, least_past, no_past
from evenwheels.rest import rest_beat, rests
from evenwheels.rules import how_many_die
from tests.support import (
    GREAT, HALF_ROUND, LONELY, MACHINES, NEIGHBOURS, TWICE, TWO_WHEELS, WheelTest, flat_of, fraction_rows, odd_things,
    pair_of, plain_echelon, plain_is_sum, plain_silent, random_load, some_machines, whole_load,
)

NO_BEATS = [0, -1, 31, 300, 10 ** 500, True, False, 1.0, "1", None, (1,), [1]]
CALLS = (has_past, least_past, no_past)
WORDS = ((1, 3, 3, 1), (((0, 0), (1, 1)), ((1, 0), (2, 1)), ((1, 2), (2, 2)), ((2, 0), (3, 0))))


def some_loads(machine, chance):
    """Loads as they are, behind some beats, and such with one thing otherwise."""
    load = random_load(machine, chance)
    gone = behind(machine, load, chance.choice([1, 2, 3, 7]))
    spot = chance.choice(spots(machine))
    return [load, gone, added(machine, gone, one_at(machine, spot)), behind(machine, load, 30), evened(machine, load),
            empty(machine), one_at(machine, spot)]


def what_ones_become(machine, beats):
    return [flat_of(behind(machine, one_at(machine, spot), beats)) for spot in spots(machine)]


def plain_has_past(machine, load, beats):
    return plain_is_sum(plain_echelon(what_ones_become(machine, beats))[1], flat_of(load))


class HasPast(WheelTest):
    def test_by_hand(self):
        # Of one beat just where both spots that a touch's roll to hold the same: (0, 1) and (1, 2).
        self.assertIs(has_past(TWO_WHEELS, whole_load([5, 2], [3, 4, 2]), 1), True)
        self.assertIs(has_past(TWO_WHEELS, whole_load([5, 2], [3, 4, 1]), 1), False)
        self.assertIs(has_past(TWO_WHEELS, whole_load([5, 2], [3, 4, 2]), 2), False)
        self.assertIs(has_past(HALF_ROUND, whole_load([1, 2, 3, 1, 2, 3]), 30), True)
        self.assertIs(has_past(LONELY, whole_load([1, 2, 3, 4, 5]), 30), True)
        self.assertIs(has_past(NEIGHBOURS, whole_load([1, 1, 1, 1]), 30), True)

    def test_of_one_beat(self):
        chance = random.Random(330)
        for machine in some_machines():
            for load in some_loads(machine, chance):
                wanted = all(load[w][(p - 1) % machine[0][w]] == load[v][(q - 1) % machine[0][v]]
                             for (w, p), (v, q) in machine[1])
                self.assertIs(has_past(machine, load, 1), wanted)

    def test_just_as_a_second_telling(self):
        chance = random.Random(331)
        for machine in some_machines()[::4]:
            beats = chance.choice([2, 3, 5, 12])
            for load in some_loads(machine, chance):
                self.assertIs(has_past(machine, load, beats), plain_has_past(machine, load, beats))

    def test_what_is_behind_so_many_beats(self):
        chance = random.Random(332)
        for machine in some_machines()[::2] + GREAT:
            for beats in (1, 4, 30):
                load = behind(machine, random_load(machine, chance), beats)
                self.assertIs(has_past(machine, load, beats), True)

    def test_by_what_the_mirror_brings_to_noughts(self):
        chance = random.Random(333)
        for machine in some_machines()[::6]:
            for beats in (1, 3):
                across = mirror(machine)
                columns = what_ones_become(across, beats)
                rows = [list(row) for row in zip(*columns)]
                dying = plain_silent(rows, cells(machine))
                for load in some_loads(machine, chance):
                    wanted = all(sum(x * y for x, y in zip(flat_of(turned(machine, load)), one)) == 0 for one in dying)
                    self.assertIs(has_past(machine, load, beats), wanted)


class Depth(WheelTest):
    def test_by_hand(self):
        self.assertEqual(depth(TWO_WHEELS, whole_load([5, 2], [3, 4, 2])), 1)
        self.assertEqual(depth(TWO_WHEELS, whole_load([5, 2], [3, 4, 1])), 0)
        self.assertEqual(depth(TWO_WHEELS, beat(TWO_WHEELS, whole_load([5, 2], [3, 4, 2]))), None)
        self.assertIsNone(depth(TWO_WHEELS, empty(TWO_WHEELS)))
        self.assertIsNone(depth(LONELY, whole_load([1, 2, 3, 4, 5])))
        self.assertEqual(depth(NEIGHBOURS, whole_load([1, 0, 0, 0])), 0)
        self.assertEqual(depth(NEIGHBOURS, whole_load([1, 1, 1, 1])), None)

    def test_just_as_has_past(self):
        chance = random.Random(334)
        found = {}
        for machine in some_machines():
            for load in some_loads(machine, chance):
                told = depth(machine, load)
                found[told] = True
                if told is None:
                    self.assertIs(has_past(machine, load, 30), True)
                else:
                    self.assertIs(type(told), int)
                    if told > 0:
                        self.assertIs(has_past(machine, load, told), True)
                    self.assertIs(has_past(machine, load, told + 1), False)
        self.assertTrue({None, 0, 1, 2, 3} <= set(found))

    def test_less_than_how_many_die(self):
        chance = random.Random(335)
        for machine in some_machines():
            most = how_many_die(machine)
            for load in some_loads(machine, chance):
                told = depth(machine, load)
                if told is not None:
                    self.assertLess(told, most)

    def test_deep(self):
        # One alone at (0, 3) was at (0, 14) 11 beats ahead; a beat more, and both wheels would hold the same there.
        machine = ((15, 15), (((0, 0), (1, 0)),))
        now = one_at(machine, (0, 3))
        told = []
        for _ in range(7):
            told.append(depth(machine, now))
            now = beat(machine, now)
        self.assertEqual(told, [11, 12, 13, 14, None, None, None])

    def test_the_greatest_machines(self):
        chance = random.Random(336)
        for machine in GREAT:
            self.assertIsNone(depth(machine, behind(machine, random_load(machine, chance), 30)))
            self.assertIsNone(depth(machine, evened(machine, random_load(machine, chance))))
            self.assertEqual(depth(machine, random_load(machine, chance)), 0)


class LeastPast(WheelTest):
    def test_by_hand(self):
        told = least_past(TWO_WHEELS, whole_load([5, 2], [3, 4, 2]), 1)
        self.assertEqual(told, whole_load([2, 5], [2, 3, 4]))
        self.assertEqual(least_past(NEIGHBOURS, whole_load([1, 1, 1, 1]), 9), whole_load([1, 1, 1, 1]))
        self.assertEqual(least_past(LONELY, whole_load([1, 2, 3, 4, 5]), 1), whole_load([5, 1, 2, 3, 4]))
        self.assertEqual(least_past(LONELY, whole_load([1, 2, 3, 4, 5]), 28), whole_load([3, 4, 5, 1, 2]))
        self.assert_text(Never, least_past, TWO_WHEELS, whole_load([5, 2], [3, 4, 1]), 1)
        self.assert_text(Never, least_past, TWO_WHEELS, whole_load([5, 2], [3, 4, 2]), 2)

    def test_it_is_a_past_and_the_least(self):
        chance = random.Random(337)
        for machine in some_machines()[::2]:
            for load in some_loads(machine, chance):
                beats = chance.choice([1, 2, 4])
                if not has_past(machine, load, beats):
                    self.assert_text(Never, least_past, machine, load, beats)
                    continue
                told = least_past(machine, load, beats)
                self.assertTrue(is_load(machine, told))
                self.assertEqual(behind(machine, told, beats), load)
                # Turned it has a past by the mirror: that is but one.
                self.assertIs(has_past(mirror(machine), turned(machine, told), beats), True)

    def test_nought_paired_with_all_that_die(self):
        chance = random.Random(338)
        for machine in some_machines()[::6]:
            beats = chance.choice([1, 3, 8])
            past = random_load(machine, chance)
            told = least_past(machine, behind(machine, past, beats), beats)
            rows = [list(row) for row in zip(*what_ones_become(machine, beats))]
            for dying in plain_silent(rows, cells(machine)):
                self.assertEqual(sum(x * y for x, y in zip(flat_of(told), dying)), 0)
            self.assertLessEqual(sum(x * x for x in flat_of(told)), sum(x * x for x in flat_of(past)))

    def test_the_greatest_machines(self):
        chance = random.Random(339)
        for machine in GREAT:
            load = behind(machine, random_load(machine, chance), 30)
            told = least_past(machine, load, 30)
            self.assertEqual(behind(machine, told, 30), load)
            self.assertIs(has_past(mirror(machine), turned(machine, told), 30), True)


class NoPast(WheelTest):
    def test_by_hand(self):
        load = whole_load([5, 2], [3, 4, 1])
        paper = no_past(TWO_WHEELS, load, 1)
        self.assertIsNone(check_no_past(TWO_WHEELS, load, 1, paper))
        self.assert_text(Never, no_past, TWO_WHEELS, whole_load([5, 2], [3, 4, 2]), 1)
        self.assert_text(Never, no_past, LONELY, whole_load([1, 2, 3, 4, 5]), 30)
        # The mirror's touch is at (0, 1) and (1, 1), where these turned are.
        self.assertIsNone(check_no_past(TWO_WHEELS, load, 1, whole_load([0, 1], [0, -1, 0])))

    def test_just_where_there_is_none(self):
        chance = random.Random(340)
        for machine in some_machines()[::2]:
            for load in some_loads(machine, chance):
                beats = chance.choice([1, 2, 3, 30])
                if has_past(machine, load, beats):
                    self.assert_text(Never, no_past, machine, load, beats)
                    continue
                paper = no_past(machine, load, beats)
                self.assertTrue(is_load(machine, paper))
                self.assertEqual(behind(mirror(machine), paper, beats), empty(machine))
                self.assertNotEqual(paired(machine, turned(machine, load), paper), (0, 1))
                self.assertIsNone(check_no_past(machine, load, beats, paper))

    def test_no_paper_where_there_is_one(self):
        chance = random.Random(341)
        for machine in some_machines()[::5]:
            load = behind(machine, random_load(machine, chance), 2)
            paper = random_load(machine, chance)
            rows = [list(row) for row in zip(*what_ones_become(mirror(machine), 2))]
            for dying in plain_silent(rows, cells(machine))[:3]:
                worths = [pair_of(worth) for worth in dying]
                paper = tuple(tuple(worths.pop(0) for _ in range(count)) for count in machine[0])
                self.assert_place(BadPaper, "paired", check_no_past, machine, load, 2, paper)

    def test_check_refuses(self):
        load = whole_load([5, 2], [3, 4, 1])
        good = whole_load([0, 1], [0, -1, 0])
        for thing in [empty(TWICE), good[:1], list(good), (good[0], None), (good[0], (None,) * 3),
                      (good[0], ((0, 1), (2, 4), (0, 1)))] + odd_things():
            self.assert_place(BadPaper, None, check_no_past, TWO_WHEELS, load, 1, thing)
        for thing in (whole_load([0, 1], [0, 1, 0]), whole_load([1, 1], [0, -1, 0]), whole_load([1, 0], [-1, 0, 0]),
                      fraction_rows([[0, Fraction(1, 2)], [0, Fraction(-1, 3), 0]])):
            self.assert_place(BadPaper, "noughts", check_no_past, TWO_WHEELS, load, 1, thing)
        self.assert_place(BadPaper, "paired", check_no_past, TWO_WHEELS, load, 1, empty(TWO_WHEELS))
        self.assert_place(BadPaper, "paired", check_no_past, TWO_WHEELS, whole_load([5, 2], [3, 4, 2]), 1, good)
        self.assertIsNone(check_no_past(TWO_WHEELS, load, 1, scaled(TWO_WHEELS, good, (-2, 7))))
        # What is nought behind one beat is so behind more; not the other way about.
        self.assertIsNone(check_no_past(TWO_WHEELS, load, 30, good))
        later = no_past(TWO_WHEELS, whole_load([5, 2], [3, 4, 2]), 2)
        self.assert_place(BadPaper, "noughts", check_no_past, TWO_WHEELS, whole_load([5, 2], [3, 4, 2]), 1, later)

    def test_the_greatest_machines(self):
        chance = random.Random(342)
        for machine in GREAT:
            load = random_load(machine, chance)
            for beats in (1, 30):
                self.assertIsNone(check_no_past(machine, load, beats, no_past(machine, load, beats)))


class WhereItRests(WheelTest):
    def test_just_even_loads_have_a_past(self):
        chance = random.Random(343)
        asked = 0
        for machine in some_machines() + [WORDS]:
            if rests(machine) and machine[1]:
                beats = rest_beat(machine)
                asked += 1
                for load in some_loads(machine, chance):
                    if beats > 0:
                        self.assertIs(has_past(machine, load, beats), is_even(machine, load))
                    self.assertEqual(depth(machine, load) is None, is_even(machine, load))
        self.assertGreater(asked, 5)


class Refused(WheelTest):
    def test_loads_ahead_of_beats(self):
        for call in CALLS:
            for thing in [empty(TWO_WHEELS)] + odd_things():
                self.assert_place(BadLoad, None, call, TWICE, thing, None)
                self.assert_place(BadLoad, None, call, TWICE, thing, 1)
            self.assert_place(BadLoad, (0, 1), call, TWO_WHEELS, (((0, 1), (0, 2)), (None,) * 3), 31)
            for beats in NO_BEATS + odd_things():
                self.assert_text(OutOfPlace, call, TWICE, empty(TWICE), beats)
        for thing in odd_things():
            self.assert_place(BadLoad, None, depth, TWICE, thing)
            self.assert_place(BadLoad, None, check_no_past, TWICE, thing, None, None)
        for beats in NO_BEATS + odd_things():
            self.assert_text(OutOfPlace, check_no_past, TWICE, empty(TWICE), beats, None)

    def test_no_machine_ahead_of_all_else(self):
        for call, many in ((has_past, 2), (depth, 1), (least_past, 2), (no_past, 2), (check_no_past, 3)):
            self.assert_no_machine_ahead(call, *[None] * many)

    def test_by_names_and_told_again(self):
        load = whole_load([5, 2], [3, 4, 1])
        self.assertIs(has_past(machine=TWO_WHEELS, load=load, beats=1), False)
        self.assertEqual(depth(machine=TWO_WHEELS, load=load), 0)
        self.assertEqual(least_past(machine=LONELY, load=empty(LONELY), beats=1), empty(LONELY))
        paper = no_past(machine=TWO_WHEELS, load=load, beats=1)
        self.assertIsNone(check_no_past(machine=TWO_WHEELS, load=load, beats=1, paper=paper))
        chance = random.Random(344)
        for machine in MACHINES[1:]:
            load = random_load(machine, chance)
            self.assert_told_again(has_past, machine, load, 2)
            self.assert_told_again(depth, machine, load)
            self.assert_told_again(least_past, machine, behind(machine, load, 2), 2)
            if not has_past(machine, load, 2):
                self.assert_told_again(no_past, machine, load, 2)
                self.assert_told_again(check_no_past, machine, load, 2, no_past(machine, load, 2))
