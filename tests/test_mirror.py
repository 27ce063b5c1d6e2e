"""MIRROR, TURNED, PAIRED."""

import random
from fractions import Fraction

from evenwheels.errors import BadLoad, BadMachine, NoTouch
from evenwheels.loads import added, behind, empty, is_load, one_at, scaled, squares
from evenwheels.machines import is_machine, spots
from evenwheels.mirror import mirror, mirror_touch, paired, turned
from evenwheels.rules import whole_rule
from evenwheels.shifts import g_of
from evenwheels.web import lots
from tests.support import (
    CHAIN, HALF_ROUND, LONELY, MACHINES, MOST_CELLS_ALONE, ONE_CELL, ONE_CELL_TOUCHES, SEVERAL_LOTS, TWICE, TWO_WHEELS,
    WheelTest, holds_of, load_of, odd_things, pair_of, random_load, some_machines, whole_load,
)


def plain_mirror(machine):
    pairs = []
    for one, other in machine[1]:
        pairs.append(tuple(sorted((wheel, (1 - place) % machine[0][wheel]) for wheel, place in (one, other))))
    return (machine[0], tuple(sorted(pairs)))


def plain_turned(machine, load):
    holds = holds_of(load)
    return load_of(machine, {(wheel, place): holds[wheel, -place % machine[0][wheel]] for wheel, place in holds})


class Mirror(WheelTest):
    def test_by_hand(self):
        self.assertEqual(mirror(ONE_CELL), ONE_CELL)
        self.assertEqual(mirror(LONELY), LONELY)
        self.assertEqual(mirror(TWO_WHEELS), ((2, 3), (((0, 1), (1, 1)),)))
        self.assertEqual(mirror(HALF_ROUND), ((6,), (((0, 0), (0, 3)),)))
        self.assertEqual(mirror(((7,), (((0, 0), (0, 2)),))), ((7,), (((0, 1), (0, 6)),)))
        self.assertEqual(mirror(ONE_CELL_TOUCHES), ((1, 4), (((0, 0), (1, 3)),)))
        self.assertEqual(mirror(TWICE), ((4, 6), (((0, 1), (1, 0)), ((0, 3), (1, 4)))))
        machine = ((6,), (((0, 0), (0, 1)), ((0, 2), (0, 5)), ((0, 3), (0, 4))))
        self.assertEqual(mirror(machine), ((6,), (((0, 0), (0, 1)), ((0, 2), (0, 5)), ((0, 3), (0, 4)))))

    def test_put_in_order(self):
        machine = ((5, 5), (((0, 0), (0, 3)), ((0, 2), (1, 4)), ((0, 4), (1, 1))))
        self.assertEqual(mirror(machine), ((5, 5), (((0, 1), (0, 3)), ((0, 2), (1, 0)), ((0, 4), (1, 2)))))
        self.assertEqual([mirror_touch(machine, touch) for touch in range(3)], [0, 2, 1])

    def test_just_as_a_second_telling(self):
        for machine in some_machines():
            told = mirror(machine)
            self.assertTrue(is_machine(told))
            self.assertEqual(told, plain_mirror(machine))

    def test_mirrors_mirror_is_the_machine(self):
        for machine in some_machines():
            self.assertEqual(mirror(mirror(machine)), machine)

    def test_d_lots_and_g_stay(self):
        for machine in some_machines():
            told = mirror(machine)
            self.assertEqual(whole_rule(told), whole_rule(machine))
            self.assertEqual(lots(told), lots(machine))
            for wheel in range(len(machine[0])):
                self.assertEqual(g_of(told, wheel), g_of(machine, wheel))


class MirrorTouch(WheelTest):
    def test_by_hand(self):
        self.assertEqual(mirror_touch(TWO_WHEELS, 0), 0)
        self.assertEqual([mirror_touch(TWICE, touch) for touch in (0, 1)], [0, 1])
        machine = ((9,), (((0, 2), (0, 3)), ((0, 4), (0, 5)), ((0, 6), (0, 7))))
        self.assertEqual(mirror(machine), ((9,), (((0, 3), (0, 4)), ((0, 5), (0, 6)), ((0, 7), (0, 8)))))
        self.assertEqual([mirror_touch(machine, touch) for touch in range(3)], [2, 1, 0])

    def test_there_its_spots_are(self):
        for machine in some_machines():
            told = [mirror_touch(machine, touch) for touch in range(len(machine[1]))]
            self.assertEqual(sorted(told), list(range(len(machine[1]))))
            for touch, pair in enumerate(machine[1]):
                wanted = {(wheel, (1 - place) % machine[0][wheel]) for wheel, place in pair}
                self.assertEqual(set(mirror(machine)[1][told[touch]]), wanted)
                self.assertEqual(mirror_touch(mirror(machine), told[touch]), touch)

    def test_no_touch(self):
        for thing in odd_things() + [2, -1, (0,), 10 ** 500]:
            self.assert_text(NoTouch, mirror_touch, TWICE, thing)
        self.assert_text(NoTouch, mirror_touch, LONELY, 0)


class Turned(WheelTest):
    def test_by_hand(self):
        self.assertEqual(turned(ONE_CELL, whole_load([4])), whole_load([4]))
        self.assertEqual(turned(LONELY, whole_load([1, 2, 3, 4, 5])), whole_load([1, 5, 4, 3, 2]))
        self.assertEqual(turned(TWO_WHEELS, whole_load([1, 2], [3, 4, 5])), whole_load([1, 2], [3, 5, 4]))

    def test_twice_it_is_itself(self):
        chance = random.Random(100)
        for machine in some_machines():
            load = random_load(machine, chance)
            told = turned(machine, load)
            self.assertTrue(is_load(machine, told))
            self.assertEqual(told, plain_turned(machine, load))
            self.assertEqual(turned(machine, told), load)
            self.assertEqual(squares(machine, told), squares(machine, load))


class Paired(WheelTest):
    def test_by_hand(self):
        one, other = whole_load([1, 2], [3, 4, 5]), whole_load([6, 7], [-8, 0, 1])
        self.assertEqual(paired(TWO_WHEELS, one, other), (6 + 14 - 24 + 5, 1))
        self.assertEqual(paired(ONE_CELL, (((2, 3),),), (((-1, 2),),)), (-1, 3))
        self.assertEqual(paired(TWO_WHEELS, one, empty(TWO_WHEELS)), (0, 1))

    def test_just_as_a_second_telling(self):
        chance = random.Random(101)
        for machine in some_machines():
            one, other, third = [random_load(machine, chance) for _ in range(3)]
            mine, yours = holds_of(one), holds_of(other)
            told = paired(machine, one, other)
            self.assertEqual(told, pair_of(sum((mine[spot] * yours[spot] for spot in mine), Fraction(0))))
            self.assertEqual(told, paired(machine, other, one))
            self.assertEqual(paired(machine, one, one), squares(machine, one))
            self.assertEqual(told, paired(machine, turned(machine, one), turned(machine, other)))
            sums = Fraction(*told) + Fraction(*paired(machine, third, other))
            self.assertEqual(paired(machine, added(machine, one, third), other), pair_of(sums))

    def test_one_at_a_spot_tells_what_stands_there(self):
        chance = random.Random(102)
        for machine in MACHINES:
            load = random_load(machine, chance)
            for wheel, place in spots(machine):
                self.assertEqual(paired(machine, one_at(machine, (wheel, place)), load), load[wheel][place])


class TheOtherWayAbout(WheelTest):
    def test_paired_behind_beats(self):
        chance = random.Random(103)
        for machine in some_machines():
            one, other = random_load(machine, chance), random_load(machine, chance)
            for beats in (0, 1, 2, 7):
                across = turned(machine, behind(mirror(machine), turned(machine, other), beats))
                told = paired(machine, behind(machine, one, beats), other)
                self.assertEqual(told, paired(machine, one, across))

    def test_spot_by_spot(self):
        for machine in (TWO_WHEELS, TWICE, HALF_ROUND, ONE_CELL_TOUCHES, CHAIN):
            for beats in (1, 3):
                goes = {spot: behind(machine, one_at(machine, spot), beats) for spot in spots(machine)}
                back = {spot: behind(mirror(machine), one_at(machine, spot), beats) for spot in spots(machine)}
                for one in spots(machine):
                    for other in spots(machine):
                        begin = (other[0], -other[1] % machine[0][other[0]])
                        across = (one[0], -one[1] % machine[0][one[0]])
                        self.assertEqual(goes[one][other[0]][other[1]], back[begin][across[0]][across[1]])

    def test_300_beats(self):
        machine = MOST_CELLS_ALONE
        one, other = one_at(machine, (0, 3)), scaled(machine, one_at(machine, (0, 29)), (2, 3))
        across = turned(machine, behind(mirror(machine), turned(machine, other), 300))
        self.assertEqual(paired(machine, behind(machine, one, 300), other), paired(machine, one, across))


class Refused(WheelTest):
    def test_bad_loads(self):
        load, bad = whole_load([1, 2], [3, 4, 5]), whole_load([1, 2], [3, 4])
        worse = (((1, 1), (1, 1)), ((1, 1), (2, 4), None))
        self.assert_place(BadLoad, None, turned, TWO_WHEELS, bad)
        self.assert_place(BadLoad, (1, 1), turned, TWO_WHEELS, worse)
        self.assert_place(BadLoad, (1, 1), paired, TWO_WHEELS, worse, bad)
        self.assert_place(BadLoad, None, paired, TWO_WHEELS, bad, worse)
        self.assert_place(BadLoad, (1, 1), paired, TWO_WHEELS, load, worse)
        self.assert_place(BadLoad, None, paired, TWO_WHEELS, load, bad)
        for thing in odd_things():
            self.assert_place(BadLoad, None, turned, TWO_WHEELS, thing)
            self.assert_place(BadLoad, None, paired, TWO_WHEELS, thing, load)
            self.assert_place(BadLoad, None, paired, TWO_WHEELS, load, thing)

    def test_no_machine_ahead_of_all(self):
        for thing in odd_things() + [((0,), ()), ((2, 3), [])]:
            with self.assertRaises(BadMachine):
                mirror(thing)
            for call in (mirror_touch, turned):
                with self.assertRaises(BadMachine):
                    call(thing, None)
            with self.assertRaises(BadMachine):
                paired(thing, None, None)
        self.assert_place(BadMachine, "touches", mirror, ((1,), []))
        self.assert_place(BadMachine, "counts", mirror_touch, ((), ()), None)
        self.assert_place(BadMachine, 0, turned, ((1,), (None,)), None)
        self.assert_place(BadMachine, None, paired, None, None, None)

    def test_by_names_and_told_again(self):
        self.assertEqual(mirror(machine=ONE_CELL), ONE_CELL)
        self.assertEqual(mirror_touch(machine=TWICE, touch=1), 1)
        self.assertEqual(turned(machine=ONE_CELL, load=whole_load([3])), whole_load([3]))
        self.assertEqual(paired(machine=ONE_CELL, load=whole_load([3]), other=whole_load([2])), (6, 1))
        chance = random.Random(104)
        for machine in (TWICE, SEVERAL_LOTS, LONELY, MOST_CELLS_ALONE):
            one, other = random_load(machine, chance), random_load(machine, chance)
            self.assert_told_again(mirror, machine)
            self.assert_told_again(turned, machine, one)
            self.assert_told_again(paired, machine, one, other)
        self.assert_told_again(mirror_touch, SEVERAL_LOTS, 2)
