"""REST, and UNREST PAPERS: made, let by, and refused."""

import random
from fractions import Fraction

from evenwheels.classes import class_of, classes
from evenwheels.ends import is_even
from evenwheels.errors import BadMachine, BadPaper, Never
from evenwheels.loads import behind, one_at
from evenwheels.machines import cells, machine_of, spots
from evenwheels.rest import check_unrest, rest_beat, rests, unrest_paper
from evenwheels.rules import left_over
from evenwheels.shifts import g_of
from evenwheels.web import lots, web
from tests.support import (
    CHAIN, DEEP_LIST, DEEP_TUPLE, HALF_ROUND, LONELY, MACHINES, MOST_CELLS_ALONE, MOST_WHEELS_ALL, ONE_CELL,
    ONE_CELL_TOUCHES, SEVERAL_LOTS, TWICE, TWO_WHEELS, UNEVEN_ROUND, WheelTest, even_machine, holds_of, odd_things,
    pair_of, plain_beat, plain_classes, random_load, random_machine, some_machines, within_itself,
)


def word_machine(many):
    """A cell for each word of one sign more, which rolls on to the word with the first sign put last."""
    length, at, counts = 2 ** (many + 1), {}, []
    for word in range(length):
        count = 0
        while word not in at:
            at[word] = (len(counts), count)
            # What rolls on to place I is at I + 1: the word with the last sign put first.
            word = word // 2 + word % 2 * length // 2
            count += 1
        if count:
            counts.append(count)
    return machine_of(tuple(counts), [(at[word], at[word + length // 2]) for word in range(length // 2)])


def plain_rest_beat(machine):
    """The least number of beats by trying; None where it isn't even behind as many as there are cells."""
    groups = plain_classes(machine)
    loads = [{one: Fraction(one == spot) for one in spots(machine)} for spot in spots(machine)]
    for beats in range(cells(machine) + 1):
        if all(len({load[spot] for spot in members}) == 1 for load in loads for members in groups):
            return beats
        loads = [plain_beat(machine, load) for load in loads]
    return None


def many_machines():
    chance = random.Random(90)
    small = [machine for machine in [random_machine(chance) for _ in range(400)] if cells(machine) <= 9]
    return some_machines() + small + [even_machine(chance) for _ in range(40)]


def odd_one_divides(machine):
    sizes = [len(members) for members in classes(machine)]
    return any(size % odd == 0 for size in sizes for odd in range(3, 31, 2))


class Rests(WheelTest):
    def test_by_hand(self):
        for machine in (ONE_CELL, LONELY, HALF_ROUND, ((1, 1), (((0, 0), (1, 0)),)), ((3, 5, 2), ())):
            self.assertIs(rests(machine), True)
        for machine in (UNEVEN_ROUND, TWO_WHEELS, TWICE, ONE_CELL_TOUCHES, SEVERAL_LOTS, CHAIN, MOST_WHEELS_ALL):
            self.assertIs(rests(machine), False)

    def test_one_lot_that_doesn_t_is_enough(self):
        self.assertIs(rests(((6, 2, 2), (((0, 1), (0, 4)), ((1, 0), (2, 0))))), True)
        self.assertIs(rests(((6, 2, 3), (((0, 1), (0, 4)), ((1, 0), (2, 0))))), False)
        self.assertIs(rests(((2, 3, 6), (((0, 0), (1, 0)), ((2, 1), (2, 4))))), False)
        self.assertIs(rests(((6, 2, 2), (((0, 1), (0, 3)), ((1, 0), (2, 0))))), False)

    def test_two_wheels_with_one_touch(self):
        for one in range(1, 8):
            for other in range(1, 8):
                machine = ((one, other), (((0, one // 2), (1, other - 1)),))
                self.assertIs(rests(machine), one == other)
                if one == other:
                    self.assertEqual(rest_beat(machine), one)

    def test_one_wheel_with_one_touch(self):
        for count in range(2, 13):
            for one in range(count):
                for other in range(one + 1, count):
                    machine = ((count,), (((0, one), (0, other)),))
                    self.assertIs(rests(machine), 2 * (other - one) == count)
                    if rests(machine):
                        self.assertEqual(rest_beat(machine), count // 2)

    def test_just_where_nothing_is_left_over(self):
        for machine in many_machines():
            told = rests(machine)
            self.assertIs(told, all(left_over(machine, lot[0]) == ((1, 1),) for lot in lots(machine)))
            if odd_one_divides(machine):
                self.assertIs(told, False)

    def test_all_gaps_one(self):
        # Of as many touches as half the cells each place has one: some of these rest, some don't.
        seen = []
        for pairs in ([(0, 1), (2, 3)], [(0, 2), (1, 3)], [(0, 3), (1, 2)]):
            machine = machine_of((4,), [((0, one), (0, other)) for one, other in pairs])
            self.assertEqual({way[3] for way in web(machine)}, {1})
            self.assertIs(rests(machine), plain_rest_beat(machine) is not None)
            seen.append(rests(machine))
        self.assertEqual(seen, [True, True, True])
        machine = machine_of((8,), [((0, one), (0, one + 1)) for one in (0, 2, 4, 6)])
        self.assertEqual((rests(machine), class_of(machine, (0, 5))), (False, (0, 0)))
        self.assertFalse(odd_one_divides(machine))


class RestBeat(WheelTest):
    def test_by_hand(self):
        self.assertEqual(rest_beat(ONE_CELL), 0)
        self.assertEqual(rest_beat(LONELY), 0)
        self.assertEqual(rest_beat(((3, 5, 2), ())), 0)
        self.assertEqual(rest_beat(((1, 1), (((0, 0), (1, 0)),))), 1)
        self.assertEqual(rest_beat(HALF_ROUND), 3)
        self.assertEqual(rest_beat(((4,), (((0, 0), (0, 1)), ((0, 2), (0, 3))))), 2)
        self.assertEqual(rest_beat(((4,), (((0, 0), (0, 2)), ((0, 1), (0, 3))))), 1)
        self.assertEqual(rest_beat(((6, 2, 2), (((0, 1), (0, 4)), ((1, 0), (2, 0))))), 3)
        self.assertEqual(rest_beat(((5, 5, 4), (((0, 0), (1, 3)), ((2, 0), (2, 2))))), 5)

    def test_word_machines(self):
        for many in range(4):
            machine = word_machine(many)
            self.assertEqual((cells(machine), len(machine[1])), (2 ** (many + 1), 2 ** many))
            self.assertEqual({way[3] for way in web(machine)}, {1})
            self.assertIs(rests(machine), True)
            self.assertEqual(rest_beat(machine), many + 1)

    def test_just_as_by_trying(self):
        found = 0
        for machine in many_machines():
            if cells(machine) <= 12 or rests(machine):
                told = plain_rest_beat(machine)
                self.assertIs(rests(machine), told is not None)
                if told is None:
                    self.assert_text(Never, rest_beat, machine)
                else:
                    self.assertEqual(rest_beat(machine), told)
                    found += told > 0
        self.assertGreater(found, 20)

    def test_the_least_one(self):
        chance = random.Random(91)
        for machine in many_machines():
            if not rests(machine):
                self.assert_text(Never, rest_beat, machine)
                continue
            beats = rest_beat(machine)
            latest = cells(machine) - sum(g_of(machine, lot[0]) for lot in lots(machine))
            self.assertIn(beats, range(latest + 1))
            self.assertIs(is_even(machine, behind(machine, random_load(machine, chance), beats)), True)
            if beats > 0:
                ends = [behind(machine, one_at(machine, spot), beats - 1) for spot in spots(machine)]
                self.assertFalse(all(is_even(machine, load) for load in ends))

    def test_never(self):
        for machine in (TWO_WHEELS, UNEVEN_ROUND, CHAIN, MOST_CELLS_ALONE, MOST_WHEELS_ALL):
            self.assert_text(Never, rest_beat, machine)


class Unrest(WheelTest):
    def test_just_where_it_doesn_t_rest(self):
        for machine in many_machines():
            if rests(machine):
                self.assert_text(Never, unrest_paper, machine)
            else:
                paper = unrest_paper(machine)
                self.assertEqual((type(paper), len(paper)), (tuple, 3))
                told = check_unrest(machine, paper)
                self.assert_fractions(told)
                self.assertEqual((type(told), len(told)), (tuple, 2))
                self.assertNotEqual(told[0], told[1])

    def test_what_both_hold(self):
        chance = random.Random(92)
        let_by = 0
        for machine in [machine for machine in MACHINES if not rests(machine)]:
            for _ in range(12):
                begin = chance.choice(spots(machine))
                one, other = sorted(chance.sample(sorted(chance.choice(plain_classes(machine))) * 2, 2))
                holds = {spot: Fraction(spot == begin) for spot in spots(machine)}
                for _ in range(cells(machine)):
                    holds = plain_beat(machine, holds)
                if one == other:
                    self.refused("other", machine, (begin, one, other))
                elif holds[one] == holds[other]:
                    self.refused("worth", machine, (begin, one, other))
                else:
                    told = check_unrest(machine, (begin, one, other))
                    self.assertEqual(told, (pair_of(holds[one]), pair_of(holds[other])))
                    let_by += 1
        self.assertGreater(let_by, 30)

    def test_by_hand(self):
        # Five beats of one at (0, 0): a half each at 0, then what rolls meets at beats 2, 3 and 4.
        holds = holds_of(behind(TWO_WHEELS, one_at(TWO_WHEELS, (0, 0)), 5))
        self.assertEqual([holds[0, 0], holds[0, 1]], [Fraction(1, 4), Fraction(1, 8)])
        self.assertEqual(check_unrest(TWO_WHEELS, ((0, 0), (0, 0), (0, 1))), ((1, 4), (1, 8)))

    def refused(self, place, machine, paper):
        self.assert_place(BadPaper, place, check_unrest, machine, paper)

    def test_no_tuple_of_three(self):
        good = ((0, 0), (0, 0), (0, 1))
        others = [(), good[:2], good + good[:1], list(good), "abc", {0: 0, 1: 1, 2: 2}, DEEP_TUPLE, DEEP_LIST]
        for paper in others + [thing for thing in odd_things() if type(thing) is not tuple or len(thing) != 3]:
            self.refused(None, TWO_WHEELS, paper)

    def test_no_spots(self):
        others = [(0, 2), (2, 0), (-1, 0), (0, -1), [0, 0], (False, 0), (0, True), (0, 0, 0), (0,), (0, 0.0),
                  within_itself(), DEEP_TUPLE]
        for thing in others + odd_things():
            self.refused("from", TWO_WHEELS, (thing, (0, 0), (0, 1)))
            self.refused("from", TWO_WHEELS, (thing, None, None))
            self.refused("one", TWO_WHEELS, ((0, 0), thing, (0, 1)))
            self.refused("one", TWO_WHEELS, ((0, 0), thing, None))
            self.refused("other", TWO_WHEELS, ((0, 0), (0, 0), thing))

    def test_other_not_above_one(self):
        for begin in spots(TWO_WHEELS):
            self.refused("other", TWO_WHEELS, (begin, (0, 1), (0, 0)))
            self.refused("other", TWO_WHEELS, (begin, (1, 0), (0, 1)))
            self.refused("other", TWO_WHEELS, (begin, (0, 1), (0, 1)))
        self.refused("other", TWICE, ((0, 0), (1, 1), (1, 0)))
        self.refused("other", HALF_ROUND, ((0, 0), (0, 3), (0, 0)))

    def test_of_two_classes(self):
        self.refused("class", TWICE, ((0, 0), (0, 0), (0, 1)))
        self.refused("class", TWICE, ((0, 0), (0, 1), (1, 1)))
        self.refused("class", SEVERAL_LOTS, ((0, 0), (0, 0), (3, 0)))
        self.refused("class", SEVERAL_LOTS, ((3, 0), (3, 0), (3, 1)))
        self.refused("class", LONELY, ((0, 0), (0, 0), (0, 1)))
        self.refused("class", HALF_ROUND, ((0, 0), (0, 0), (0, 1)))

    def test_both_hold_the_same(self):
        self.refused("worth", HALF_ROUND, ((0, 0), (0, 0), (0, 3)))
        self.refused("worth", HALF_ROUND, ((0, 2), (0, 1), (0, 4)))
        self.refused("worth", SEVERAL_LOTS, ((3, 0), (0, 0), (2, 1)))
        for machine in MACHINES:
            if rests(machine):
                for members in classes(machine):
                    for other in members[1:]:
                        self.refused("worth", machine, ((0, 0), members[0], other))

    def test_spoilt(self):
        for machine in MACHINES:
            if rests(machine):
                continue
            begin, one, other = unrest_paper(machine)
            self.refused(None, machine, (begin, one))
            self.refused("from", machine, (None, one, other))
            self.refused("one", machine, (begin, None, other))
            self.refused("other", machine, (begin, one, None))
            self.refused("other", machine, (begin, other, one))
            for changed in spots(machine):
                if changed > one and class_of(machine, changed) != class_of(machine, one):
                    self.refused("class", machine, (begin, one, changed))


class NoMachine(WheelTest):
    def test_ahead_of_all_else(self):
        for thing in odd_things() + [((0,), ()), ((2, 3), [])]:
            for call in (rests, rest_beat, unrest_paper):
                with self.assertRaises(BadMachine):
                    call(thing)
            with self.assertRaises(BadMachine):
                check_unrest(thing, None)
        for call in (rests, rest_beat, unrest_paper):
            self.assert_place(BadMachine, "counts", call, ((), ()))
        self.assert_place(BadMachine, "touches", check_unrest, ((1,), []), None)

    def test_by_names_and_told_again(self):
        self.assertIs(rests(machine=HALF_ROUND), True)
        self.assertEqual(rest_beat(machine=HALF_ROUND), 3)
        paper = unrest_paper(machine=TWO_WHEELS)
        self.assertEqual(check_unrest(machine=TWO_WHEELS, paper=paper), check_unrest(TWO_WHEELS, paper))
        for machine in MACHINES + [word_machine(3)]:
            self.assert_told_again(rests, machine)
            if rests(machine):
                self.assert_told_again(rest_beat, machine)
            else:
                self.assert_told_again(unrest_paper, machine)
                self.assert_told_again(check_unrest, machine, unrest_paper(machine))
