"""ONE WEB, CROSS PAPERS, families, the count of rounds, WORD MACHINES."""

import random
from fractions import Fraction
from itertools import combinations, permutations

from evenwheels.alike import named, names_between
from evenwheels.crossing import crossed
from evenwheels.errors import BadMachine, BadPaper, Never, OutOfPlace, TooGreat
from evenwheels.loads import one_at, readings
from evenwheels.machines import cells, is_machine, machine_of, spots
from evenwheels.polynomials import worth_at
from evenwheels.rest import rest_beat, rests
from evenwheels.rules import left_over
from evenwheels.shifts import g_of
from evenwheels.web import lot_of, lots, web
from evenwheels.webs import are_one_web, check_cross, count_of_rounds, cross_paper, family, word_machine
from tests.support import (
    CHAIN, DEEP_LIST, DEEP_TUPLE, EIGHT, GREAT, HALF_ROUND, LATEST, LONELY, MACHINES, MOST_CELLS_ALONE,
    MOST_WHEELS_ALL, NEIGHBOURS, ONE_CELL, SEVERAL_LOTS, TWICE, TWO_WHEELS, UNEVEN_ROUND, Same, WheelTest, odd_things,
    random_machine, some_machines, some_names, within_itself,
)

SIXTEEN = ((1,) * 14 + (8, 8), tuple(((14, p), (15, p)) for p in range(8)))
SEVENTEENTH = ((1,) * 14 + (10, 6), (((14, 0), (15, 0)), ((15, 1), (15, 4))))


def all_numbers(machine):
    many = len(machine[1])
    return [numbers for size in range(many + 1) for numbers in combinations(range(many), size)]


def crossed_or_none(machine, numbers):
    try:
        return crossed(machine, numbers)
    except TooGreat:
        return None


def lone_counts(machine):
    touching = {spot[0] for pair in machine[1] for spot in pair}
    return sorted(count for wheel, count in enumerate(machine[0]) if wheel not in touching)


def plain_one_web(machine, other):
    """By all numbers of touches, one by one."""
    mine = [(begin, goal, gap) for begin, _, goal, gap in web(machine)]
    yours = sorted((begin, goal, gap) for begin, _, goal, gap in web(other))
    if len(machine[1]) != len(other[1]) or lone_counts(machine) != lone_counts(other):
        return False
    return any(sorted((n[begin], n[goal], gap) for begin, goal, gap in mine) == yours
               for n in permutations(range(len(machine[1]))))


def small_web_machine(chance):
    while True:
        machine = random_machine(chance)
        if len(machine[1]) <= 5 and sum(machine[0]) <= 12:
            return machine


def machine_of_a_web(chance, many, most):
    """One of so many touches, of any ways with gaps from 1 to most."""
    ends = [(touch, side) for touch in range(many) for side in (0, 1)]
    goes = dict(zip(ends, chance.sample(ends, len(ends))))
    told, counts = {}, []
    for end in ends:
        if end not in told:
            place = 0
            while end not in told:
                told[end] = (len(counts), place)
                place -= chance.randint(1, most)
                end = goes[end]
            counts.append(-place)
    spot = {end: (wheel, place % counts[wheel]) for end, (wheel, place) in told.items()}
    return machine_of(tuple(counts), [(spot[(touch, 0)], spot[(touch, 1)]) for touch in range(many)])


def some_other(machine, chance):
    """It crossed over at some touches, and named otherwise."""
    many = len(machine[1])
    while True:
        made = crossed_or_none(machine, tuple(sorted(chance.sample(range(many), chance.randint(0, many)))))
        if made is not None:
            return named(made, some_names(made, chance))


class OneWeb(WheelTest):
    def test_by_hand(self):
        self.assertIs(are_one_web(TWO_WHEELS, ((5,), (((0, 0), (0, 2)),))), True)
        self.assertIs(are_one_web(TWO_WHEELS, ((5,), (((0, 0), (0, 3)),))), True)
        self.assertIs(are_one_web(TWO_WHEELS, ((5,), (((0, 0), (0, 1)),))), False)
        self.assertIs(are_one_web(((1, 2), ()), ((2, 1), ())), True)
        self.assertIs(are_one_web(((1, 3), ()), ((2, 2), ())), False)
        self.assertIs(are_one_web(LONELY, ((5, 1), ())), False)
        self.assertIs(are_one_web(((3, 2), (((0, 0), (0, 1)),)), ((3, 2), (((0, 0), (0, 1)),))), True)
        # The same ways, but another lone wheel; as many cells together.
        self.assertIs(are_one_web(((3, 2, 2), (((0, 0), (0, 1)),)), ((3, 1, 3), (((0, 0), (0, 1)),))), False)

    def test_crossed_over_and_named_otherwise(self):
        chance = random.Random(320)
        for machine in some_machines() + GREAT + [SIXTEEN]:
            other = some_other(machine, chance)
            self.assertIs(are_one_web(machine, other), True)
            self.assertIs(are_one_web(other, machine), True)

    def test_like_counts_and_another_web(self):
        self.assertIs(are_one_web(UNEVEN_ROUND, ((7,), (((0, 0), (0, 3)),))), False)
        # Two touches with the same gaps, in another order round the wheel.
        self.assertIs(are_one_web(((8,), (((0, 0), (0, 1)), ((0, 3), (0, 5)))),
                                  ((8,), (((0, 0), (0, 1)), ((0, 3), (0, 6))))), False)
        # As many ways of each gap at each touch, but of one lot and of two.
        apart = ((4, 4), (((0, 0), (0, 2)), ((1, 0), (1, 2))))
        together = ((4, 4), (((0, 0), (1, 0)), ((0, 2), (1, 2))))
        self.assertIs(are_one_web(apart, together), False)
        last = ((2,) * 14, tuple(((2 * k, 0), (2 * k + 1, 0)) for k in range(7)))
        self.assertIs(are_one_web((last[0] + (1,), last[1]), (last[0][:-1] + (1, 2), last[1])), False)

    def test_just_as_by_all_numbers_of_touches(self):
        chance = random.Random(321)
        told = {True: 0, False: 0}
        machines = [small_web_machine(chance) for _ in range(45)] + [TWO_WHEELS, TWICE, NEIGHBOURS, HALF_ROUND]
        machines += [some_other(machine, chance) for machine in machines]
        for machine, other in combinations(machines, 2):
            if sum(machine[0]) == sum(other[0]) and len(machine[1]) == len(other[1]):
                wanted = plain_one_web(machine, other)
                self.assertIs(are_one_web(machine, other), wanted)
                self.assertIs(are_one_web(other, machine), wanted)
                told[wanted] += 1
        self.assertGreater(min(told.values()), 40)

    def test_lots_that_are_alike_as_often(self):
        self.assertIs(are_one_web(((2,) * 4, (((0, 0), (1, 0)), ((2, 0), (3, 0)))),
                                  ((2, 2, 2, 1), (((0, 0), (1, 0)), ((2, 0), (3, 0))))), False)
        self.assertIs(are_one_web(((1, 2, 1, 2), (((0, 0), (1, 0)), ((2, 0), (3, 0)))),
                                  ((1, 1, 2, 2), (((0, 0), (2, 1)), ((1, 0), (3, 0))))), True)

    def test_all_sorts_of_webs(self):
        chance = random.Random(331)
        told = {True: 0, False: 0}
        for many in (2, 3, 4, 4, 4):
            machines = [machine_of_a_web(chance, many, most) for most in (1, 1, 2) for _ in range(12)]
            for machine, other in combinations(machines, 2):
                wanted = plain_one_web(machine, other)
                self.assertIs(are_one_web(machine, other), wanted)
                self.assertIs(are_one_web(other, machine), wanted)
                told[wanted] += 1
        self.assertGreater(min(told.values()), 200)

    def test_gaps_of_one_lot_exchanged(self):
        chance = random.Random(322)
        told = {True: 0, False: 0}
        for _ in range(200):
            places = sorted(chance.sample(range(9), 4))
            chance.shuffle(places)
            one = ((9,), tuple(sorted(tuple(sorted((((0, places[0]), (0, places[1]))[k]) for k in (0, 1)))
                                      for places in (places[:2], places[2:]))))
            places = sorted(places)
            other = ((9,), tuple(sorted((((0, places[0]), (0, places[2])), ((0, places[1]), (0, places[3]))))))
            wanted = plain_one_web(one, other)
            told[wanted] += 1
            self.assertIs(are_one_web(one, other), wanted)
        self.assertGreater(min(told.values()), 10)


class CrossPaper(WheelTest):
    def test_by_hand(self):
        self.assertEqual(cross_paper(TWO_WHEELS, TWO_WHEELS), ((), ((0, 0), (1, 0))))
        self.assertEqual(cross_paper(TWO_WHEELS, ((5,), (((0, 0), (0, 2)),))), ((0,), ((0, 0),)))
        self.assertEqual(cross_paper(TWO_WHEELS, ((5,), (((0, 1), (0, 4)),))), ((0,), ((0, 4),)))
        self.assertEqual(cross_paper(((5,), (((0, 1), (0, 4)),)), TWO_WHEELS)[0], (0,))
        self.assertEqual(cross_paper(((1, 2), ()), ((2, 1), ())), ((), ((1, 0), (0, 0))))
        self.assert_text(Never, cross_paper, TWO_WHEELS, ((5,), (((0, 0), (0, 1)),)))
        self.assert_text(Never, cross_paper, LONELY, ONE_CELL)

    def test_the_fewest_and_the_least(self):
        chance = random.Random(323)
        for machine in some_machines()[::2]:
            other = some_other(machine, chance)
            told = cross_paper(machine, other)
            self.assertEqual([type(told), type(told[0]), type(told[1])], [tuple] * 3)
            for numbers in all_numbers(machine):
                made = crossed_or_none(machine, numbers)
                names = names_between(made, other) if made is not None else None
                if names is not None:
                    self.assertEqual(told, (numbers, names))
                    break
            self.assertEqual(named(crossed(machine, told[0]), told[1]), other)

    def test_just_where_they_have_one_web(self):
        chance = random.Random(324)
        machines = [small_web_machine(chance) for _ in range(30)]
        for machine, other in combinations(machines, 2):
            if are_one_web(machine, other):
                self.assertIsNone(check_cross(machine, other, cross_paper(machine, other)))
            else:
                self.assert_text(Never, cross_paper, machine, other)

    def test_the_greatest_machines(self):
        chance = random.Random(325)
        for machine in GREAT + [SIXTEEN, word_machine(3)]:
            other = some_other(machine, chance)
            self.assertIsNone(check_cross(machine, other, cross_paper(machine, other)))


class CheckCross(WheelTest):
    def test_any_that_is_one(self):
        chance = random.Random(326)
        for machine in some_machines()[::2]:
            for numbers in all_numbers(machine)[:9]:
                made = crossed_or_none(machine, numbers)
                if made is not None:
                    names = some_names(made, chance)
                    self.assertIsNone(check_cross(machine, named(made, names), (numbers, names)))

    def test_no_pair(self):
        for thing in [(), ((),), ((), (), ()), [(), ((0, 0), (1, 0))], DEEP_TUPLE, DEEP_LIST, within_itself()] + [
                thing for thing in odd_things() if type(thing) is not tuple or len(thing) != 2]:
            self.assert_place(BadPaper, None, check_cross, TWO_WHEELS, TWO_WHEELS, thing)

    def test_touches(self):
        names = ((0, 0), (1, 0))
        for thing in [None, [], (1,), (0, 0), (-1,), (True,), (0.0,), "0", 0, DEEP_TUPLE, within_itself(), (Same(),)]:
            self.assert_place(BadPaper, "touches", check_cross, TWO_WHEELS, TWO_WHEELS, (thing, names))
            self.assert_place(BadPaper, "touches", check_cross, TWO_WHEELS, TWO_WHEELS, (thing, None))
        # Of anything that is a pair.
        for thing in odd_things():
            if type(thing) is tuple and len(thing) == 2:
                with self.assertRaises(BadPaper):
                    check_cross(TWO_WHEELS, TWO_WHEELS, thing)

    def test_a_seventeenth_wheel_is_touches(self):
        self.assert_place(BadPaper, "touches", check_cross, SEVENTEENTH, SEVENTEENTH, ((1,), None))
        names = tuple((wheel, 0) for wheel in range(16))
        self.assertIsNone(check_cross(SEVENTEENTH, SEVENTEENTH, ((), names)))

    def test_names(self):
        other = ((5,), (((0, 0), (0, 2)),))
        for thing in [None, (), [], ((0, 0), (1, 0)), [(0, 0)], ((1, 0),), ((0, 5),), ((0, -1),), ((False, 0),),
                      ((0, 0, 0),), DEEP_TUPLE, within_itself(), (Same(),)] + odd_things():
            self.assert_place(BadPaper, "names", check_cross, TWO_WHEELS, other, ((0,), thing))
        # Of what crossing over makes, not of the first or of the other one.
        self.assertIsNone(check_cross(TWO_WHEELS, other, ((0,), ((0, 0),))))
        self.assert_place(BadPaper, "names", check_cross, TWO_WHEELS, other, ((), ((0, 0),)))

    def test_not_the_other_one(self):
        other = ((5,), (((0, 0), (0, 2)),))
        self.assert_place(BadPaper, "other", check_cross, TWO_WHEELS, other, ((), ((0, 0), (1, 0))))
        self.assert_place(BadPaper, "other", check_cross, TWO_WHEELS, other, ((0,), ((0, 1),)))
        self.assert_place(BadPaper, "other", check_cross, TWO_WHEELS, LONELY, ((0,), ((0, 0),)))
        self.assert_place(BadPaper, "other", check_cross, TWO_WHEELS, TWO_WHEELS, ((), ((1, 0), (0, 0))))


class Family(WheelTest):
    def test_by_hand(self):
        self.assertEqual(family(LONELY), [()])
        self.assertEqual(family(TWO_WHEELS), [(), (0,)])
        self.assertEqual(family(HALF_ROUND), [(), (0,)])
        # Both touches are alike there: crossed over at the one or the other it is alike; at both it is not one wheel.
        self.assertEqual(family(((4,), (((0, 0), (0, 1)), ((0, 2), (0, 3))))), [(), (0,), (0, 1)])

    def test_the_first_of_each(self):
        for machine in [machine for machine in some_machines() if len(machine[1]) <= 5] + [EIGHT, word_machine(3)]:
            told = family(machine)
            self.assertIs(type(told), list)
            kept = []
            for numbers in all_numbers(machine):
                made = crossed_or_none(machine, numbers)
                if made is not None and all(names_between(made, other) is None for _, other in kept):
                    kept.append((numbers, made))
            self.assertEqual(told, [numbers for numbers, _ in kept])

    def test_no_two_alike_and_all_of_one_web(self):
        for machine in MACHINES + [LATEST, word_machine(2)]:
            made = [crossed(machine, numbers) for numbers in family(machine)]
            self.assertTrue(all(names_between(one, other) is None for one, other in combinations(made, 2)))
            self.assertTrue(all(are_one_web(machine, one) for one in made))

    def test_of_any_of_it_there_are_as_many(self):
        chance = random.Random(327)
        for machine in [TWICE, SEVERAL_LOTS, CHAIN, UNEVEN_ROUND, NEIGHBOURS]:
            self.assertEqual(len(family(some_other(machine, chance))), len(family(machine)))

    def test_what_is_too_great_is_none(self):
        self.assertEqual(family(SEVENTEENTH), [(), (0,), (0, 1)])
        self.assertEqual(family(SIXTEEN), [(), (0,)])

    def test_the_greatest_machines(self):
        for machine in GREAT:
            told = family(machine)
            self.assertEqual(told[0], ())
            self.assertEqual(told, sorted(told, key=lambda numbers: (len(numbers), numbers)))


class CountOfRounds(WheelTest):
    def test_by_hand(self):
        told = [count_of_rounds(machine, 0) for machine in (ONE_CELL, LONELY, HALF_ROUND, TWO_WHEELS, TWICE)]
        self.assertEqual(told, [1, 1, 1, 1, 2])
        self.assertEqual([count_of_rounds(SEVERAL_LOTS, wheel) for wheel in range(5)], [1, 2, 1, 1, 2])

    def test_against_all_lots_of_touches(self):
        for machine in some_machines() + [EIGHT, SIXTEEN, word_machine(3)]:
            for lot in lots(machine):
                touches = [at for at, pair in enumerate(machine[1]) if pair[0][0] in lot]
                many = sum(rounds_of(machine, lot, numbers) == 1 for size in range(len(touches) + 1)
                           for numbers in combinations(touches, size))
                for wheel in lot:
                    self.assertEqual(count_of_rounds(machine, wheel), many)

    def test_by_q_at_one(self):
        for machine in some_machines() + GREAT:
            for wheel in range(len(machine[0])):
                lot = lot_of(machine, wheel)
                touches = sum(pair[0][0] in lot for pair in machine[1])
                worth = Fraction(*worth_at(left_over(machine, wheel), (1, 1)))
                held = sum(machine[0][member] for member in lot)
                self.assertEqual(count_of_rounds(machine, wheel), 2 ** touches * g_of(machine, wheel) * worth / held)

    def test_it_stays_crossed_over(self):
        chance = random.Random(328)
        for machine in some_machines()[::3]:
            other = some_other(machine, chance)
            mine = sorted(count_of_rounds(machine, lot[0]) for lot in lots(machine))
            self.assertEqual(sorted(count_of_rounds(other, lot[0]) for lot in lots(other)), mine)

    def test_no_wheel(self):
        for thing in odd_things() + [5, -1, (0,), "0", 10 ** 500]:
            self.assert_text(OutOfPlace, count_of_rounds, SEVERAL_LOTS, thing)


def rounds_of(machine, lot, numbers):
    """How many rounds the cells of a lot make, crossed over at these."""
    goes = {(w, p): (w, (p - 1) % machine[0][w]) for w, p in spots(machine) if w in lot}
    for number in numbers:
        one, other = machine[1][number]
        goes[one], goes[other] = goes[other], goes[one]
    left, many = set(goes), 0
    while left:
        here = left.pop()
        many += 1
        while goes[here] in left:
            here = goes[here]
            left.remove(here)
    return many


def word_at(machine, many):
    """The words of a word machine by their spots, told from how they roll on."""
    words = {}
    wheel = 0
    known = set()
    for word in range(2 ** (many + 1)):
        if word not in known:
            here, place = word, 0
            while here not in known:
                known.add(here)
                words[(wheel, place)] = here
                # The one that rolls on to it.
                here = next(one for one in range(2 ** (many + 1))
                            if (2 * one) % 2 ** (many + 1) + one // 2 ** many == here)
                place += 1
            wheel += 1
    return words


class WordMachine(WheelTest):
    def test_by_hand(self):
        self.assertEqual(word_machine(0), ((1, 1), (((0, 0), (1, 0)),)))
        # 00, 01 and 10, 11: 00 touches 10, which is at 1 of the wheel of 01.
        self.assertEqual(word_machine(1), ((1, 2, 1), (((0, 0), (1, 1)), ((1, 0), (2, 0)))))
        # 001: 100 rolls on to it, 010 to that; 011: 101 rolls on to it, 110 to that.
        self.assertEqual(word_machine(2), ((1, 3, 3, 1), (
            ((0, 0), (1, 1)), ((1, 0), (2, 1)), ((1, 2), (2, 2)), ((2, 0), (3, 0)))))

    def test_words(self):
        for many in range(4):
            machine = word_machine(many)
            self.assertTrue(is_machine(machine))
            self.assertEqual(cells(machine), 2 ** (many + 1))
            words = word_at(machine, many)
            self.assertEqual(sorted(words), list(spots(machine)))
            pairs = [tuple(sorted(words[spot] for spot in pair)) for pair in machine[1]]
            self.assertEqual(sorted(pairs), [(word, word + 2 ** many) for word in range(2 ** many)])

    def test_its_ways(self):
        for many in range(4):
            machine, touches = word_machine(many), 2 ** many
            words = word_at(machine, many)
            # A touch is told by what both words end in.
            ends = [words[pair[0]] % touches for pair in machine[1]]
            told = sorted((ends[begin], ends[goal], gap) for begin, _, goal, gap in web(machine))
            wanted = [(at, goal % touches, 1) for at in range(touches) for goal in (2 * at, 2 * at + 1)]
            self.assertEqual(told, sorted(wanted))

    def test_it_rests_and_what_is_said_of_it(self):
        for many in range(4):
            machine, touches = word_machine(many), 2 ** many
            self.assertTrue(rests(machine))
            self.assertEqual(rest_beat(machine), many + 1)
            self.assertEqual(lots(machine), (tuple(range(len(machine[0]))),))
            self.assertEqual(g_of(machine, 0), 1)
            self.assertEqual(left_over(machine, 0), ((1, 1),))
            # Of 2 ** (N - K - 1); of K and N 0 and 1 that is 1.
            self.assertEqual(count_of_rounds(machine, 0), 2 ** (touches - many - 1))
            for spot in spots(machine):
                told = readings(machine, one_at(machine, spot), many + 1)[many]
                self.assertEqual(told, ((1, 2 * touches),) * touches)

    def test_out_of_place(self):
        for thing in [4, -1, True, False, 1.0, "1", None, (1,), 10 ** 500] + odd_things():
            self.assert_text(OutOfPlace, word_machine, thing)


class NoMachine(WheelTest):
    def test_ahead_of_all_else(self):
        calls = ((are_one_web, 1), (cross_paper, 1), (check_cross, 2), (family, 0), (count_of_rounds, 1))
        for call, many in calls:
            self.assert_no_machine_ahead(call, *[None] * many)

    def test_the_second_behind_the_first(self):
        for call, more in ((are_one_web, ()), (cross_paper, ()), (check_cross, (None,))):
            self.assert_no_machine_ahead(lambda other, asked=call, rest=more: asked(TWICE, other, *rest))
            self.assert_place(BadMachine, "touches", call, ((1,), []), ((), ()), *more)
            self.assert_place(BadMachine, None, call, None, ((), ()), *more)

    def test_by_names_and_told_again(self):
        self.assertIs(are_one_web(machine=TWICE, other=TWICE), True)
        paper = cross_paper(machine=TWICE, other=TWICE)
        self.assertIsNone(check_cross(machine=TWICE, other=TWICE, paper=paper))
        self.assertEqual(family(machine=LONELY), [()])
        self.assertEqual(count_of_rounds(machine=TWICE, wheel=1), 2)
        self.assertEqual(word_machine(many=0), word_machine(0))
        chance = random.Random(329)
        for machine in MACHINES[:8] + [MOST_CELLS_ALONE]:
            other = some_other(machine, chance)
            self.assert_told_again(are_one_web, machine, other)
            self.assert_told_again(cross_paper, machine, other)
            self.assert_told_again(check_cross, machine, other, cross_paper(machine, other))
            self.assert_told_again(family, machine)
            self.assert_told_again(count_of_rounds, machine, 0)
        self.assert_told_again(word_machine, 3)
        self.assertEqual(len(MOST_WHEELS_ALL[0]), 16)
