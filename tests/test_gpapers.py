"""G PAPERS: made, let by, and refused."""

from math import gcd

from evenwheels.closed import is_closed, length, simple_ways
from evenwheels.errors import BadMachine, BadPaper, OutOfPlace
from evenwheels.gpapers import check_g, g_paper
from evenwheels.shifts import are_shifts, g_of, shifts
from evenwheels.web import lots
from tests.support import (
    DEEP_LIST, DEEP_TUPLE, LONELY, MACHINES, SEVERAL_LOTS, TWICE, TWO_WHEELS, WheelTest, odd_things, some_machines,
    within_itself,
)

FOUR = ((0, 0), (0, 2))
SIX = ((0, 2), (1, 1))


class Made(WheelTest):
    def test_let_by_and_shows_g(self):
        for machine in some_machines():
            for lot in lots(machine):
                for wheel in lot:
                    paper = g_paper(machine, wheel)
                    self.assertEqual(check_g(machine, wheel, paper), g_of(machine, wheel))

    def test_form(self):
        for machine in some_machines():
            for lot in lots(machine):
                told, closed = g_paper(machine, lot[-1])
                self.assertIs(type(told), tuple)
                self.assertIs(type(closed), tuple)
                self.assertTrue(are_shifts(machine, lot[0], g_of(machine, lot[0]), told))
                common = 0
                for way in closed:
                    self.assertTrue(is_closed(machine, way))
                    self.assertIn(way[0][0], lot)
                    common = gcd(common, length(machine, way))
                self.assertIn(common, (g_of(machine, lot[0]), 0))
                self.assertEqual(len(closed) == 0, all(one[0] not in lot for one, other in machine[1]))

    def test_all_simple_ways_are_a_paper_too(self):
        for machine in MACHINES:
            for lot in lots(machine):
                greatest = g_of(machine, lot[0])
                paper = (shifts(machine, lot[0], greatest), tuple(simple_ways(machine, lot[0])))
                self.assertEqual(check_g(machine, lot[0], paper), greatest)

    def test_no_touch(self):
        self.assertEqual(g_paper(LONELY, 0), ((0,), ()))
        self.assertEqual(check_g(LONELY, 0, ((0,), ())), 5)
        self.assertEqual(check_g(SEVERAL_LOTS, 3, ((0,), ())), 2)

    def test_by_hand(self):
        self.assertEqual(check_g(TWICE, 0, ((0, 1), (FOUR, SIX))), 2)
        self.assertEqual(check_g(TWICE, 1, ((0, 1), (SIX, FOUR, SIX))), 2)
        self.assertEqual(check_g(TWICE, 1, ((0, 1), (FOUR + SIX[::-1], FOUR))), 2)
        self.assertEqual(check_g(TWO_WHEELS, 0, ((0, 0), (((0, 0),), ((1, 0),)))), 1)
        self.assertEqual(check_g(((6,), (((0, 1), (0, 4)),)), 0, ((0,), (((0, 1),),))), 3)
        self.assertEqual(check_g(SEVERAL_LOTS, 2, ((0, 2), (((0, 1),),))), 3)


class Refused(WheelTest):
    def refused(self, place, paper, machine=TWICE, wheel=0):
        self.assert_place(BadPaper, place, check_g, machine, wheel, paper)

    def test_no_tuple_of_two_tuples(self):
        others = [(), ((0, 1),), ((0, 1), (FOUR, SIX), ()), [(0, 1), (FOUR, SIX)], ([0, 1], (FOUR, SIX)),
                  ((0, 1), [FOUR, SIX]), (None, ()), ((), None), "ab", ("a", "b"), (DEEP_LIST, ()), 2]
        for paper in others + [thing for thing in odd_things() if type(thing) is not tuple or len(thing) != 2]:
            self.refused(None, paper)
        for thing in [thing for thing in odd_things() if type(thing) is not tuple]:
            self.refused(None, (thing, (FOUR, SIX)))
            self.refused(None, ((0, 1), thing))

    def test_anything(self):
        for thing in odd_things():
            with self.assertRaises(BadPaper):
                check_g(TWICE, 0, thing)

    def test_closed(self):
        others = [(), FOUR[:1], FOUR[:1] * 2, FOUR + FOUR[:1], ((0, 1), (0, 2)), ((0, 9), (0, 2)), list(FOUR),
                  ((0, False), (0, 2)), (DEEP_TUPLE,), (within_itself(),), 4]
        for way in others + odd_things():
            self.refused(("closed", 0), ((0, 1), (way,)))
            self.refused(("closed", 0), ((0, 1), (way, FOUR, None)))
            self.refused(("closed", 2), ((0, 1), (FOUR, SIX, way)))
            self.refused(("closed", 1), (("x",), (SIX, way, way)))

    def test_of_another_lot(self):
        one, other = ((0, 1),), ((1, 0), (1, 2))
        self.assertEqual(check_g(SEVERAL_LOTS, 0, ((0, 2), (one,))), 3)
        self.assertEqual(check_g(SEVERAL_LOTS, 1, ((0, 3), (other,))), 4)
        self.refused(("closed", 1), ((0, 2), (one, other)), SEVERAL_LOTS, 0)
        self.refused(("closed", 0), ((0, 3), (one, other)), SEVERAL_LOTS, 4)
        self.refused(("closed", 0), ((0,), (one,)), SEVERAL_LOTS, 3)

    def test_where_one_lacks(self):
        self.refused(("closed", 0), ((0, 1), ()))
        self.refused(("closed", 0), ((), ()))
        self.refused(("closed", 0), ((0, 3), ()), SEVERAL_LOTS, 4)

    def test_cut_exchanged_left_out(self):
        self.refused(("closed", 0), ((0, 1), (FOUR[:1], SIX)))
        self.refused(("closed", 1), ((0, 1), (FOUR, SIX[1:])))
        self.refused(("closed", 0), ((0, 1), ((FOUR[0], SIX[1]), SIX)))
        self.refused("shifts", ((0, 1), (FOUR,)))
        self.refused("shifts", ((0, 1), (SIX,)))

    def test_shifts(self):
        others = [(0, 0), (1, 0), (1, 1), (0,), (), (0, 1, 0), (0, True), (False, 1), (0, 1.0), (0, -1), (0, 3), (2, 1),
                  ("0", "1"), (None, None), (DEEP_TUPLE, within_itself())]
        for told in others:
            self.refused("shifts", (told, (FOUR, SIX)))

    def test_shifts_modulo_another_number(self):
        machine = ((12, 12), (((0, 5), (1, 3)), ((0, 8), (1, 10))))
        told, closed = g_paper(machine, 0)
        self.assertEqual((check_g(machine, 0, (told, closed)), told), (4, (0, 2)))
        for modulo in (1, 2):
            self.refused("shifts", (shifts(machine, 0, modulo), closed), machine)
        self.refused("shifts", (told, (closed[0],)), machine)
        self.refused("shifts", ((1,), ()), LONELY)

    def test_no_touch(self):
        self.refused("shifts", ((), ()), LONELY)
        self.refused("shifts", ((0, 0), ()), LONELY)
        self.refused(("closed", 0), ((0,), (((0, 0),),)), LONELY)
        self.refused(("closed", 0), ((0,), ((),)), LONELY)

    def test_order(self):
        self.refused(None, ([0], (None,)))
        self.refused(("closed", 0), ((5, 5, 5), (None, None)))
        self.refused(("closed", 1), ((5, 5, 5), (FOUR, None)))
        self.refused("shifts", ((5, 5, 5), (FOUR, SIX)))

    def test_a_changed_paper_never_shows_another_number(self):
        for machine in some_machines():
            for lot in lots(machine):
                greatest = g_of(machine, lot[0])
                told, closed = g_paper(machine, lot[0])
                others = [(told, closed[:at] + closed[at + 1:]) for at in range(len(closed))]
                others += [(told[:at] + ((told[at] + 1) % greatest,) + told[at + 1:], closed) for at in range(len(lot))]
                for paper in others:
                    try:
                        self.assertEqual(check_g(machine, lot[0], paper), greatest)
                    except BadPaper as refused:
                        self.assertIn(refused.place, ("shifts", ("closed", 0)))

    def test_wheels_ahead_of_papers(self):
        for thing in odd_things() + [2, -1, (0,)]:
            self.assert_text(OutOfPlace, g_paper, TWICE, thing)
            self.assert_text(OutOfPlace, check_g, TWICE, thing, None)

    def test_no_machine_ahead_of_all(self):
        for thing in odd_things() + [((0,), ()), ((2, 3), [])]:
            with self.assertRaises(BadMachine):
                g_paper(thing, None)
            with self.assertRaises(BadMachine):
                check_g(thing, None, None)
        self.assert_place(BadMachine, "counts", check_g, ((), ()), None, None)

    def test_by_names_and_told_again(self):
        paper = g_paper(machine=TWICE, wheel=1)
        self.assertEqual(check_g(machine=TWICE, wheel=0, paper=paper), 2)
        for machine in MACHINES:
            self.assert_told_again(g_paper, machine, 0)
            self.assert_told_again(check_g, machine, 0, g_paper(machine, 0))
