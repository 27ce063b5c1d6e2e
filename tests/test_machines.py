"""MACHINES: what is one, what is refused and by which place."""

from evenwheels.errors import BadMachine, BadSpot, NoTouch, OutOfPlace
from evenwheels.machines import (
    MOST_CELLS, MOST_TOUCHES, MOST_WHEELS, all_numbers_below, cells, is_machine, machine_of, need_machine, need_spot,
    need_touch, need_wheel, spots,
)
from tests.support import DEEP_LIST, HALF_ROUND, MACHINES, SEVERAL_LOTS, TWICE, WheelTest, odd_things, some_machines

A = (0, 0)
B = (1, 0)


class Let(WheelTest):
    def test_bounds(self):
        self.assertEqual((MOST_WHEELS, MOST_CELLS, MOST_TOUCHES), (16, 30, 8))

    def test_machines(self):
        for machine in some_machines():
            self.assertIs(is_machine(machine), True)
            self.assertIsNone(need_machine(machine))

    def test_edges(self):
        eight = tuple(((0, 2 * k), (0, 2 * k + 1)) for k in range(8))
        edges = [((1,), ()), ((30,), ()), ((1,) * 16, ()), ((15,) + (1,) * 15, ()), ((2,) * 14 + (1, 1), ()),
                 ((16,), eight), ((1, 1), ((A, B),)), ((2,), ((A, (0, 1)),)), ((29, 1), (((0, 28), B),)),
                 ((1,) * 16, tuple(((2 * k, 0), (2 * k + 1, 0)) for k in range(8)))]
        for machine in edges:
            self.assertIs(is_machine(machine), True, machine)

    def test_by_names(self):
        self.assertIs(is_machine(thing=TWICE), True)
        self.assertIsNone(need_machine(thing=TWICE))
        self.assertEqual(cells(machine=TWICE), 10)
        self.assertEqual(spots(machine=((2,), ())), ((0, 0), (0, 1)))
        self.assertEqual(machine_of(counts=(1, 1), touches=[(B, A)]), ((1, 1), ((A, B),)))


class Refused(WheelTest):
    def refused(self, place, machine):
        self.assertIs(is_machine(machine), False)
        self.assert_place(BadMachine, place, need_machine, machine)

    def test_no_tuple_of_two(self):
        others = [(), ((1,),), ((1,), (), ()), [(1,), ()], 5, "ab", {1: 2, 3: 4}]
        for thing in others + [thing for thing in odd_things() if type(thing) is not tuple or len(thing) != 2]:
            self.refused(None, thing)

    def test_anything(self):
        for thing in odd_things():
            self.assertIs(is_machine(thing), False)
            with self.assertRaises(BadMachine):
                need_machine(thing)

    def test_counts(self):
        others = [(), (0,), (31,), (-1,), (1, 0), (15, 16), (30, 1), (1,) * 17, (2,) * 16, (True,), (1, True), (1.0,),
                  ("1",), [1], [2, 3], ((1,),), (None,), 1, (10 ** 500,), (1,) * 100000, (-5, 30), (31, -1), (0, 30)]
        for counts in others + odd_things():
            self.refused("counts", (counts, ()))
            self.refused("counts", (counts, None))

    def test_touches_as_a_whole(self):
        nine = tuple(((0, 2 * k), (0, 2 * k + 1)) for k in range(9))
        others = [[], [(A, B)], nine, (None,) * 9, (None,) * 100000, {}, {(A, B): 1}, 0, "ab", DEEP_LIST]
        for touches in others + [thing for thing in odd_things() if type(thing) is not tuple]:
            self.refused("touches", ((20, 1), touches))

    def test_no_such_pair(self):
        good = (A, B)
        others = [(), (A,), (A, B, B), [A, B], (A, [1, 0]), ([0, 0], B), (A, (1,)), (A, (1, 0, 0)), (A, (True, 0)),
                  (A, (1, False)), (False, 0), ((False, 0), B), ((0, 0.0), B), (A, "10"), (A, (2, 0)), (A, (-1, 0)),
                  (A, (1, 3)), (A, (1, -1)), ((0, 2), B), (A, None), None, "ab", (B, A), (A, A), (A, (10 ** 500, 0))]
        for pair in others + odd_things():
            self.refused(0, ((2, 3), (pair,)))
            self.refused(1, ((2, 3), (good, pair)))
            self.refused(2, ((2, 3), (good, ((0, 1), (1, 1)), pair)))
            self.refused(0, ((2, 3), (pair, good)))

    def test_lesser_one_ahead(self):
        self.refused(0, ((3,), (((0, 2), (0, 1)),)))
        self.refused(1, ((3, 3), ((A, (0, 1)), (B, (0, 2)))))

    def test_rising(self):
        self.refused(1, ((4,), (((0, 1), (0, 2)), ((0, 0), (0, 3)))))
        self.refused(2, ((6,), (((0, 0), (0, 1)), ((0, 4), (0, 5)), ((0, 2), (0, 3)))))
        self.refused(1, ((4,), (((0, 0), (0, 1)), ((0, 0), (0, 1)))))

    def test_a_spot_that_stands_ahead(self):
        self.refused(1, ((2, 3), ((A, (1, 0)), (A, (1, 1)))))
        self.refused(1, ((2, 3), ((A, (1, 0)), ((0, 1), (1, 0)))))
        self.refused(1, ((3,), (((0, 0), (0, 1)), ((0, 1), (0, 2)))))
        self.refused(3, ((9,), (((0, 0), (0, 8)), ((0, 1), (0, 2)), ((0, 3), (0, 4)), ((0, 5), (0, 8)))))

    def test_the_first_is_told(self):
        self.refused(1, ((5,), (((0, 3), (0, 4)), ((0, 0), (0, 1)), None)))
        self.refused(0, ((5,), (None, ((0, 0), (0, 1)), ((0, 0), (0, 1)))))
        self.refused("counts", ((0,), [None]))
        self.refused("touches", ((5,), [None]))
        self.refused(None, ((0,), [None], 1))

    def test_ahead_of_all_else(self):
        for thing in odd_things():
            for call in (cells, spots):
                self.assert_bad(call, thing)
            for call in (need_spot, need_wheel, need_touch):
                self.assert_bad(call, thing, None)

    def assert_bad(self, call, *args):
        with self.assertRaises(BadMachine):
            call(*args)


class MachineOf(WheelTest):
    def test_any_order(self):
        counts = (2, 3, 2)
        told = ((A, (1, 2)), ((0, 1), (2, 0)), (B, (1, 1)))
        self.assertEqual(machine_of(counts, told), (counts, told))
        turned = [((1, 1), B), ((2, 0), (0, 1)), ((1, 2), A)]
        for touches in (turned, tuple(turned), turned[::-1], tuple(turned[::-1]), list(told)):
            machine = machine_of(counts, touches)
            self.assertEqual(machine, (counts, told))
            self.assertIs(type(machine[1]), tuple)
            self.assertTrue(is_machine(machine))

    def test_none_and_eight(self):
        self.assertEqual(machine_of((3,), []), ((3,), ()))
        self.assertEqual(machine_of((3,), ()), ((3,), ()))
        pairs = [((0, 2 * k + 1), (0, 2 * k)) for k in range(8)]
        self.assertEqual(machine_of((16,), pairs)[1], tuple(((0, 2 * k), (0, 2 * k + 1)) for k in range(8)))

    def test_stays(self):
        touches = [(B, A), ((1, 1), (0, 1))]
        machine = machine_of((2, 2), touches)
        self.assertEqual(touches, [(B, A), ((1, 1), (0, 1))])
        touches.append(None)
        self.assertEqual(machine, ((2, 2), ((A, B), ((0, 1), (1, 1)))))

    def test_counts_ahead(self):
        for counts in odd_things() + [(), (0,), [1, 2], (31,), (1,) * 17, (True,)]:
            self.assert_place(BadMachine, "counts", machine_of, counts, [])
            self.assert_place(BadMachine, "counts", machine_of, counts, None)

    def test_touches(self):
        odd = [thing for thing in odd_things() if type(thing) not in (tuple, list) or len(thing) > 0]
        for touches in odd + ["ab", {}, iter([]), {(A, B): 1}]:
            self.assert_place(BadMachine, "touches", machine_of, (2, 3), touches)
        for pair in odd_things() + [[A, B], (A, [1, 0]), (A,), (A, B, B), (A, (1, 3)), (A, (2, 0)), (A, (True, 0))]:
            self.assert_place(BadMachine, "touches", machine_of, (2, 3), [pair])
            self.assert_place(BadMachine, "touches", machine_of, (2, 3), ((A, B), (A, B), pair))

    def test_more_than_eight(self):
        nine = [((0, 2 * k), (0, 2 * k + 1)) for k in range(9)]
        self.assert_place(BadMachine, "touches", machine_of, (18,), nine)
        self.assert_place(BadMachine, "touches", machine_of, (18,), [nine[0]] * 9)
        self.assert_place(BadMachine, "touches", machine_of, (18,), [None] * 100000)

    def test_as_the_machine_in_order(self):
        self.assert_place(BadMachine, 0, machine_of, (2, 3), [(A, A)])
        self.assert_place(BadMachine, 1, machine_of, (2, 3), [(A, B), (B, A)])
        self.assert_place(BadMachine, 1, machine_of, (2, 3), [((1, 2), A), (A, B)])
        self.assert_place(BadMachine, 2, machine_of, (2, 3), [((1, 1), (1, 2)), ((0, 1), (1, 1)), (B, A)])
        self.assert_place(BadMachine, 1, machine_of, (2, 3), [((1, 2), (1, 2)), (B, A)])


class Told(WheelTest):
    def test_cells(self):
        self.assertEqual([cells(machine) for machine in MACHINES], [1, 5, 6, 7, 5, 10, 5, 23, 30, 30, 27, 16, 18])

    def test_spots(self):
        self.assertEqual(spots(((2, 1, 3), ())), ((0, 0), (0, 1), (1, 0), (2, 0), (2, 1), (2, 2)))
        for machine in some_machines():
            told = spots(machine)
            self.assertIs(type(told), tuple)
            self.assertEqual(list(told), sorted(set(told)))
            self.assertEqual(len(told), cells(machine))

    def test_told_again(self):
        for machine in some_machines():
            for call in (is_machine, need_machine, cells, spots):
                self.assert_told_again(call, machine)
            self.assert_told_again(machine_of, machine[0], list(machine[1]))


class Needs(WheelTest):
    def test_spot(self):
        for spot in spots(SEVERAL_LOTS):
            self.assertIsNone(need_spot(SEVERAL_LOTS, spot))
        others = [(0, 3), (5, 0), (-1, 0), (0, -1), (True, 0), (0, False), (0, 0.0), [0, 0], (0,), (0, 0, 0)]
        for thing in odd_things() + others:
            self.assert_place(BadSpot, None, need_spot, SEVERAL_LOTS, thing)

    def test_wheel(self):
        for wheel in range(5):
            self.assertIsNone(need_wheel(SEVERAL_LOTS, wheel))
        for thing in odd_things() + [5, -1, 10 ** 500, (0,), [0]]:
            self.assert_text(OutOfPlace, need_wheel, SEVERAL_LOTS, thing)

    def test_touch(self):
        for touch in range(3):
            self.assertIsNone(need_touch(SEVERAL_LOTS, touch))
        for thing in odd_things() + [3, -1, 10 ** 500, (0,), [0]]:
            self.assert_text(NoTouch, need_touch, SEVERAL_LOTS, thing)
        self.assert_text(NoTouch, need_touch, ((3,), ()), 0)
        self.assertIsNone(need_touch(HALF_ROUND, 0))

    def test_all_numbers_below(self):
        self.assertEqual(all_numbers_below(0), [()])
        self.assertEqual(all_numbers_below(1), [(), (0,)])
        self.assertEqual(all_numbers_below(3), [(), (0,), (1,), (2,), (0, 1), (0, 2), (1, 2), (0, 1, 2)])
        told = all_numbers_below(8)
        self.assertEqual(len(told), 256)
        self.assertEqual(told, sorted(told, key=lambda numbers: (len(numbers), numbers)))
