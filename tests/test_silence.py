"""SILENT LOADS, SPOTS that are TOLD, and TELLINGS."""

import random
from fractions import Fraction

from evenwheels.errors import BadLoad, BadPaper, BadSpot, Never, NoTouch
from evenwheels.loads import added, behind, empty, is_load, one_at, scaled
from evenwheels.machines import cells, spots
from evenwheels.silence import check_telling, is_silent, silent, telling, told_spots
from evenwheels.windows import looks, sees
from tests.support import (
    DEEP_LIST, DEEP_TUPLE, GREAT, HALF_ROUND, LONELY, MOST_CELLS_ALONE, NEIGHBOURS, SEVERAL_LOTS, TWICE, TWO_WHEELS,
    UNEVEN_ROUND, Same, WheelTest, flat_of, fraction_rows, odd_things, pair_of, plain_echelon, plain_is_sum, plain_rows,
    random_load, some_machines, some_window, whole_load, within_itself,
)

NO_SPOTS = [(0, 4), (2, 0), (-1, 0), (0, -1), [0, 0], (False, 0), (0, True), (0, 0, 0), (0,), (0.0, 0), Same()]
NO_WINDOWS = [(), (0, 0), (1, 0), (2,), (True,), [0], 0, None, "0"]


def some_asked(seed, every):
    chance = random.Random(seed)
    machines = [machine for machine in some_machines() if machine[1]][::every]
    return [(machine, some_window(machine, chance)) for machine in machines]


def all_looks_nought(machine, window, load):
    return all(worth == (0, 1) for looked in looks(machine, window, load, 30) for worth in looked)


class Silent(WheelTest):
    def test_by_hand(self):
        self.assertEqual(silent(HALF_ROUND, (0,)), (
            whole_load([1, 0, 0, -1, 0, 0]), whole_load([0, 1, 0, 0, -1, 0]), whole_load([0, 0, 1, 0, 0, -1])))
        # The row of each beat: a half at each of the neighbours, then a fourth everywhere.
        self.assertEqual(silent(NEIGHBOURS, (0, 1)), (whole_load([1, -1, 0, 0]), whole_load([0, 0, 1, -1])))
        self.assertEqual(silent(NEIGHBOURS, (1,)), (whole_load([1, -1, 0, 0]), whole_load([0, 0, 1, -1])))
        self.assertEqual(silent(TWO_WHEELS, (0,)), (whole_load([1, 0], [-1, 0, 0]), whole_load([0, 1], [0, -1, 0])))
        self.assertEqual(silent(UNEVEN_ROUND, (0,)), (
            whole_load([1, 0, -1, 0, 0, 0, 0]), whole_load([0, 1, 0, -1, 0, 0, 0])))
        self.assertEqual(silent(((1, 1), (((0, 0), (1, 0)),)), (0,)), (whole_load([1], [-1]),))

    def test_other_lots_are_silent(self):
        told = silent(SEVERAL_LOTS, (0,))
        for spot in spots(SEVERAL_LOTS):
            if spot[0] in (1, 3, 4):
                self.assertIn(one_at(SEVERAL_LOTS, spot), told)

    def test_as_many_each_with_one_first(self):
        for machine, window in some_asked(210, 1):
            told = silent(machine, window)
            self.assertIs(type(told), tuple)
            self.assertEqual(len(told), cells(machine) - sees(machine, window))
            firsts = []
            for load in told:
                self.assertTrue(is_load(machine, load))
                self.assertTrue(all_looks_nought(machine, window, load))
                first = next(at for at, worth in enumerate(flat_of(load)) if worth)
                self.assertEqual(flat_of(load)[first], 1)
                firsts.append(first)
            self.assertEqual(firsts, sorted(set(firsts)))
            for number, load in enumerate(told):
                self.assertEqual([flat_of(load)[first] for first in firsts], [int(at == number) for at in
                                                                            range(len(told))])

    def test_each_load_is_a_silent_one_and_a_sum_of_rows(self):
        for machine, window in some_asked(211, 6):
            rows = plain_rows(machine, window, cells(machine)) + [flat_of(load) for load in silent(machine, window)]
            self.assertEqual(sum(plain_echelon(rows)[0]), cells(machine))

    def test_what_meets_unlike_at_first_is_silent(self):
        for machine, window in some_asked(212, 3):
            for one, other in machine[1]:
                apart = added(machine, one_at(machine, one), scaled(machine, one_at(machine, other), (-1, 1)))
                self.assertIs(is_silent(machine, window, apart), True)
                self.assertIs(is_silent(machine, window, one_at(machine, one)), all_looks_nought(
                    machine, window, one_at(machine, one)))

    def test_the_greatest_machines(self):
        for machine in GREAT:
            window = tuple(range(len(machine[1])))
            for load in silent(machine, window):
                self.assertTrue(is_silent(machine, window, load))
                self.assertTrue(all_looks_nought(machine, window, load))
            for spot in told_spots(machine, window)[::5]:
                self.assertIsNone(check_telling(machine, window, spot, telling(machine, window, spot)))


class IsSilent(WheelTest):
    def test_silent_loads_and_sums(self):
        chance = random.Random(213)
        for machine, window in some_asked(214, 3):
            so_far = empty(machine)
            self.assertIs(is_silent(machine, window, so_far), True)
            for load in silent(machine, window):
                self.assertIs(is_silent(machine, window, load), True)
                by = pair_of(Fraction(chance.randint(-9, 9), chance.randint(1, 9)))
                so_far = added(machine, so_far, scaled(machine, load, by))
                self.assertIs(is_silent(machine, window, so_far), True)
                self.assertIs(is_silent(machine, window, behind(machine, so_far, 2)), True)

    def test_others(self):
        chance = random.Random(215)
        for machine, window in some_asked(216, 3):
            silence = silent(machine, window)
            for _ in range(5):
                load = random_load(machine, chance)
                wanted = all_looks_nought(machine, window, load)
                self.assertIs(is_silent(machine, window, load), wanted)
                if silence:
                    self.assertIs(is_silent(machine, window, added(machine, load, silence[-1])), wanted)

    def test_only_read_at_a_late_beat(self):
        # What stands behind the touch comes to it at the last beat of all.
        machine = ((30,), (((0, 0), (0, 1)),))
        self.assertIs(is_silent(machine, (0,), one_at(machine, (0, 29))), False)
        self.assertIs(is_silent(LONELY_AND_PAIR, (0,), one_at(LONELY_AND_PAIR, (1, 0))), True)

    def test_refused(self):
        for window in NO_WINDOWS + odd_things():
            self.assert_text(NoTouch, is_silent, TWICE, window, None)
            self.assert_text(NoTouch, silent, TWICE, window)
            self.assert_text(NoTouch, told_spots, TWICE, window)
            self.assert_text(NoTouch, telling, TWICE, window, None)
            self.assert_text(NoTouch, check_telling, TWICE, window, None, None)
        self.assert_text(NoTouch, silent, LONELY, (0,))
        self.assert_place(BadLoad, None, is_silent, TWICE, (0,), empty(TWO_WHEELS))
        self.assert_place(BadLoad, (1, 2), is_silent, TWO_WHEELS, (0,), (((1, 1), (1, 1)), ((1, 1), (2, 3), (2, 4))))
        for thing in odd_things():
            self.assert_place(BadLoad, None, is_silent, TWICE, (0,), thing)


LONELY_AND_PAIR = ((2, 3), (((0, 0), (0, 1)),))


class Told(WheelTest):
    def test_by_hand(self):
        self.assertEqual(told_spots(TWO_WHEELS, (0,)), ((1, 2),))
        self.assertEqual(told_spots(HALF_ROUND, (0,)), ())
        self.assertEqual(told_spots(NEIGHBOURS, (0, 1)), ())
        self.assertEqual(told_spots(UNEVEN_ROUND, (0,)), ((0, 4), (0, 5), (0, 6)))
        self.assertEqual(told_spots(TWICE, (0, 1)), ((1, 0), (1, 5)))

    def test_just_where_it_is_a_sum_of_rows(self):
        for machine, window in some_asked(217, 3):
            _, kept = plain_echelon(plain_rows(machine, window, cells(machine)))
            told = told_spots(machine, window)
            self.assertIs(type(told), tuple)
            self.assertEqual(list(told), sorted(told))
            for spot in spots(machine):
                self.assertEqual(spot in told, plain_is_sum(kept, flat_of(one_at(machine, spot))))

    def test_the_one_or_the_other(self):
        for machine, window in some_asked(218, 2):
            silence = silent(machine, window)
            told = told_spots(machine, window)
            for wheel, place in spots(machine):
                hidden = any(load[wheel][place] != (0, 1) for load in silence)
                self.assertEqual((wheel, place) in told, not hidden)
                if hidden:
                    self.assert_text(Never, telling, machine, window, (wheel, place))
                else:
                    paper = telling(machine, window, (wheel, place))
                    self.assert_telling(machine, window, (wheel, place), paper)

    def assert_telling(self, machine, window, spot, paper):
        self.assertIs(type(paper), tuple)
        self.assertTrue(1 <= len(paper) <= cells(machine))
        for weights in paper:
            self.assertEqual(len(weights), len(window))
            self.assert_fractions(weights)
        self.assertIsNone(check_telling(machine, window, spot, paper))

    def test_by_a_telling_what_stands_there(self):
        chance = random.Random(219)
        for machine, window in some_asked(220, 5):
            load = random_load(machine, chance)
            for spot in told_spots(machine, window)[:3]:
                paper = telling(machine, window, spot)
                seen = looks(machine, window, load, len(paper))
                told = sum(Fraction(*by) * Fraction(*worth) for row, looked in zip(paper, seen)
                           for by, worth in zip(row, looked))
                self.assertEqual(pair_of(told), load[spot[0]][spot[1]])

    def test_told_by_hand(self):
        nought = ((0, 1),)
        # At beat 2 half of what was met at beat 0, and half of what stood at (1, 2).
        self.assertIsNone(check_telling(TWO_WHEELS, (0,), (1, 2), fraction_rows([[-1], [0], [2]])))
        self.assertEqual(telling(TWO_WHEELS, (0,), (1, 2)), fraction_rows([[-1], [0], [2]]) + (nought,) * 2)

    def test_refused(self):
        for call, more in ((telling, ()), (check_telling, (None,))):
            for thing in NO_SPOTS + odd_things():
                self.assert_place(BadSpot, None, call, TWICE, (0,), thing, *more)
            self.assert_place(BadSpot, None, call, HALF_ROUND, (0,), (0, 6), *more)


class CheckTelling(WheelTest):
    def test_noughts_for_more_beats(self):
        for machine, window in some_asked(221, 4):
            nought = ((0, 1),) * len(window)
            for spot in told_spots(machine, window)[:2]:
                paper = telling(machine, window, spot)
                for many in (0, 1, 30 - len(paper)):
                    if len(paper) + many <= 30:
                        self.assertIsNone(check_telling(machine, window, spot, paper + (nought,) * many))
                self.assert_place(BadPaper, None, check_telling, machine, window, spot,
                                  paper + (nought,) * (31 - len(paper)))

    def test_another_spot(self):
        for machine, window in some_asked(222, 4):
            told = told_spots(machine, window)
            for spot in told[:2]:
                paper = telling(machine, window, spot)
                for other in spots(machine)[::3]:
                    if other != spot:
                        self.assert_place(BadPaper, "rows", check_telling, machine, window, other, paper)

    def test_spoilt(self):
        paper = fraction_rows([[-1], [0], [2]])
        for at in range(3):
            for worth in ((1, 1), (1, 3), (-5, 2)):
                rows = list(paper)
                rows[at] = (worth,)
                self.assert_place(BadPaper, "rows", check_telling, TWO_WHEELS, (0,), (1, 2), tuple(rows))
        self.assert_place(BadPaper, "rows", check_telling, TWO_WHEELS, (0,), (1, 2), paper[:2])
        self.assert_place(BadPaper, "rows", check_telling, TWO_WHEELS, (0,), (1, 2), (((0, 1),),))
        # Half as much, and of a spot that no paper tells.
        half = fraction_rows([[Fraction(-1, 2)], [0], [1]])
        self.assert_place(BadPaper, "rows", check_telling, TWO_WHEELS, (0,), (1, 2), half)
        self.assert_place(BadPaper, "rows", check_telling, TWO_WHEELS, (0,), (0, 0), paper)
        self.assert_place(BadPaper, "rows", check_telling, HALF_ROUND, (0,), (0, 1), (((1, 1),),))

    def test_no_weights(self):
        one = ((0, 1), (1, 1))
        others = [(), (one,) * 31, [one], (list(one),), (one[:1],), (one + one[:1],), ((),), ((0, 1),), (one, None),
                  (None, one), (((2, 4), (0, 1)),), (((0, 1), (1, 0)),), (((0, 1), (True, 1)),), (((0, 1), [0, 1]),),
                  (((0, 1), None),), {0: one}, DEEP_TUPLE, DEEP_LIST, within_itself(), (Same(),), ((Same(), Same()),)]
        for thing in others + odd_things():
            self.assert_place(BadPaper, None, check_telling, TWICE, (0, 1), (0, 0), thing)
        self.assert_place(BadPaper, None, check_telling, TWICE, (1,), (0, 0), (one,))
        self.assert_place(BadPaper, None, check_telling, MOST_CELLS_ALONE, (0, 3, 7), (0, 0), (one,))


class NoMachine(WheelTest):
    def test_ahead_of_all_else(self):
        calls = ((silent, 1), (is_silent, 2), (told_spots, 1), (telling, 2), (check_telling, 3))
        for call, many in calls:
            self.assert_no_machine_ahead(call, *[None] * many)

    def test_by_names_and_told_again(self):
        self.assertEqual(len(silent(machine=TWO_WHEELS, window=(0,))), 2)
        self.assertIs(is_silent(machine=TWO_WHEELS, window=(0,), load=empty(TWO_WHEELS)), True)
        self.assertEqual(told_spots(machine=TWO_WHEELS, window=(0,)), ((1, 2),))
        paper = telling(machine=TWO_WHEELS, window=(0,), spot=(1, 2))
        self.assertIsNone(check_telling(machine=TWO_WHEELS, window=(0,), spot=(1, 2), paper=paper))
        chance = random.Random(223)
        for machine, window in some_asked(224, 9):
            self.assert_told_again(silent, machine, window)
            self.assert_told_again(is_silent, machine, window, random_load(machine, chance))
            self.assert_told_again(told_spots, machine, window)
            for spot in told_spots(machine, window)[:1]:
                self.assert_told_again(telling, machine, window, spot)
                self.assert_told_again(check_telling, machine, window, spot, telling(machine, window, spot))
