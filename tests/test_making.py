"""What GIFTS make at a WINDOW, and GIFTS by which a LOAD is MADE."""

import random
from fractions import Fraction

from evenwheels.errors import BadLoad, BadReadings, Never, NoTouch, OutOfPlace
from evenwheels.loads import added, beat, behind, empty, is_load, one_at, scaled
from evenwheels.machines import cells
from evenwheels.making import gifts_for, made
from evenwheels.mirror import mirror, mirror_touch, paired, turned
from evenwheels.silence import silent
from evenwheels.windows import looks, rank
from tests.support import (
    DEEP_LIST, DEEP_TUPLE, GREAT, HALF_ROUND, LONELY, MOST_CELLS_ALONE, NEIGHBOURS, TWICE, TWO_WHEELS, Same, WheelTest,
    flat_of, fraction_rows, holds_of, load_of, odd_things, pair_of, plain_beat, plain_echelon, plain_is_sum,
    random_load, some_machines, some_window, whole_load, within_itself,
)

NO_MANY = [0, -1, 31, 300, 10 ** 500, True, False, 1.0, "1", None, (1,), [1]]


def some_asked(seed, every):
    """Machines, windows of theirs, numbers of tuples."""
    chance = random.Random(seed)
    machines = [machine for machine in some_machines() if machine[1]][::every]
    return [(machine, some_window(machine, chance), chance.choice([1, 2, 3, chance.randint(4, 30)]))
            for machine in machines]


def some_gifts(window, many, chance):
    def some():
        return pair_of(Fraction(chance.randint(-9, 9), chance.randint(1, 9)))
    return tuple(tuple(some() for _ in window) for _ in range(many))


def plain_made(machine, window, gifts):
    holds = {spot: Fraction(0) for spot in holds_of(empty(machine))}
    for gift in gifts:
        for touch, worth in zip(window, gift):
            for spot in machine[1][touch]:
                holds[spot] += Fraction(*worth) / 2
        holds = plain_beat(machine, holds)
    return load_of(machine, holds)


def what_ones_make(machine, window, many):
    """For each gift of one alone, what is made."""
    found = []
    for at in range(many):
        for place in range(len(window)):
            gifts = [[(0, 1)] * len(window) for _ in range(many)]
            gifts[at][place] = (1, 1)
            found.append(flat_of(plain_made(machine, window, gifts)))
    return found


def mirror_window(machine, window):
    return tuple(sorted(mirror_touch(machine, touch) for touch in window))


class Made(WheelTest):
    def test_by_hand(self):
        # Both halves stay so at the touch, then roll.
        self.assertEqual(made(TWO_WHEELS, (0,), (((4, 1),),)), whole_load([0, 2], [0, 0, 2]))
        self.assertEqual(made(TWO_WHEELS, (0,), (((4, 1),), ((0, 1),))), whole_load([2, 0], [0, 2, 0]))
        told = made(TWO_WHEELS, (0,), (((4, 1),), ((6, 1),), ((1, 1),)))
        # Ahead of the last beat 2 and a half meets a half there.
        half, three = Fraction(1, 2), Fraction(3, 2)
        self.assertEqual(told, fraction_rows([[3, three], [2, 3, three]]))
        self.assertEqual(made(TWICE, (1,), (((1, 1),),)), fraction_rows([[0, half, 0, 0], [0, 0, half, 0, 0, 0]]))
        self.assertEqual(made(TWICE, (0, 1), (((2, 1), (-4, 1)),)), whole_load([0, -2, 0, 1], [1, 0, -2, 0, 0, 0]))

    def test_just_as_a_second_telling(self):
        chance = random.Random(231)
        for machine, window, many in some_asked(230, 1):
            gifts = some_gifts(window, many, chance)
            told = made(machine, window, gifts)
            self.assertTrue(is_load(machine, told))
            self.assertEqual(told, plain_made(machine, window, gifts))

    def test_sums_and_later_beats(self):
        chance = random.Random(232)
        for machine, window, many in some_asked(233, 5):
            one, other = some_gifts(window, many, chance), some_gifts(window, many, chance)
            both = tuple(tuple(pair_of(Fraction(*x) + Fraction(*y)) for x, y in zip(row, beside))
                         for row, beside in zip(one, other))
            sums = added(machine, made(machine, window, one), made(machine, window, other))
            self.assertEqual(made(machine, window, both), sums)
            nought = ((0, 1),) * len(window)
            if many < 30:
                self.assertEqual(made(machine, window, one + (nought,)), beat(machine, made(machine, window, one)))
                self.assertEqual(made(machine, window, (nought,) + one), made(machine, window, one))

    def test_refused(self):
        one = ((0, 1), (0, 1))
        for thing in [(), (one,) * 31, [one], "ab", {0: one}, DEEP_LIST] + [
                thing for thing in odd_things() if type(thing) is not tuple]:
            self.assert_refused(BadReadings, {"number": None}, made, TWICE, (0, 1), thing)
        for thing in [(), one[:1], one + one[:1], list(one), None, ((0, 1), (2, 4)), ((0, 1), None),
                      ((True, 1), (0, 1)), DEEP_TUPLE, within_itself(), Same()] + odd_things():
            self.assert_refused(BadReadings, {"number": 0}, made, TWICE, (0, 1), (thing, None))
            self.assert_refused(BadReadings, {"number": 2}, made, TWICE, (0, 1), (one, one, thing))
        for window in [(), (0, 0), (1, 0), (2,), (True,), [0]] + odd_things():
            self.assert_text(NoTouch, made, TWICE, window, None)
        self.assert_text(NoTouch, made, LONELY, (0,), (((0, 1),),))


class GiftsFor(WheelTest):
    def assert_gifts(self, machine, window, load, many):
        gifts = gifts_for(machine, window, load, many)
        self.assertIs(type(gifts), tuple)
        self.assertEqual(len(gifts), many)
        for gift in gifts:
            self.assertIs(type(gift), tuple)
            self.assertEqual(len(gift), len(window))
            self.assert_fractions(gift)
        self.assertEqual(plain_made(machine, window, gifts), load)

    def test_by_hand(self):
        self.assertEqual(gifts_for(TWO_WHEELS, (0,), whole_load([0, 2], [0, 0, 2]), 1), (((4, 1),),))
        self.assertEqual(gifts_for(TWO_WHEELS, (0,), empty(TWO_WHEELS), 3), (((0, 1),),) * 3)
        self.assert_text(Never, gifts_for, TWO_WHEELS, (0,), whole_load([2, 0], [0, 2, 0]), 1)
        self.assert_gifts(TWO_WHEELS, (0,), whole_load([2, 0], [0, 2, 0]), 2)
        # Of two beats of eight touches at their neighbours no more than the means.
        self.assert_text(Never, gifts_for, NEIGHBOURS, (0,), whole_load([1, 0, 0, 0]), 30)
        self.assert_text(Never, gifts_for, HALF_ROUND, (0,), whole_load([1, 0, 0, 0, 0, 0]), 30)
        self.assert_text(Never, gifts_for, HALF_ROUND, (0,), whole_load([3, 1, 2, 3, 1, 2]), 2)
        self.assert_gifts(HALF_ROUND, (0,), whole_load([3, 1, 2, 3, 1, 2]), 3)

    def test_what_was_made(self):
        chance = random.Random(234)
        for machine, window, many in some_asked(235, 2):
            load = made(machine, window, some_gifts(window, many, chance))
            self.assert_gifts(machine, window, load, many)
            self.assert_gifts(machine, window, load, 30)
            self.assert_gifts(machine, window, empty(machine), many)

    def test_just_where_it_is_a_sum_of_what_ones_make(self):
        chance = random.Random(236)
        never = 0
        for machine, window, many in some_asked(237, 4):
            _, kept = plain_echelon(what_ones_make(machine, window, many))
            loads = [random_load(machine, chance), one_at(machine, (0, 0)), one_at(machine, machine[1][0][1])]
            loads += [made(machine, window, some_gifts(window, min(many + 1, 30), chance))]
            for load in loads:
                if plain_is_sum(kept, flat_of(load)):
                    self.assert_gifts(machine, window, load, many)
                else:
                    never += 1
                    self.assert_text(Never, gifts_for, machine, window, load, many)
        self.assertGreater(never, 20)

    def test_as_many_dimensions_as_the_mirror_s_rank(self):
        for machine, window, many in some_asked(238, 4):
            told = sum(plain_echelon(what_ones_make(machine, window, many))[0])
            self.assertEqual(told, rank(mirror(machine), mirror_window(machine, window), many))

    def test_turned_it_is_nought_with_what_the_mirror_can_t_see(self):
        chance = random.Random(239)
        for machine, window, _ in some_asked(240, 4):
            hidden = silent(mirror(machine), mirror_window(machine, window))
            for load in (random_load(machine, chance), made(machine, window, some_gifts(window, 30, chance))):
                can = all(paired(machine, turned(machine, load), silence) == (0, 1) for silence in hidden)
                if can:
                    self.assert_gifts(machine, window, load, cells(machine))
                else:
                    self.assert_text(Never, gifts_for, machine, window, load, cells(machine))

    def test_hands_and_eyes_are_one_question(self):
        # What a gift makes, turned, paired with any load, is that many times what the mirror reads of it.
        chance = random.Random(241)
        for machine, window, _ in some_asked(242, 6):
            gift = some_gifts(window, 1, chance)
            load = random_load(machine, chance)
            told = paired(machine, turned(machine, made(machine, window, gift)), load)
            seen = looks(mirror(machine), tuple(range(len(machine[1]))), load, 1)[0]
            wanted = sum(Fraction(*by) * Fraction(*seen[mirror_touch(machine, touch)])
                         for touch, by in zip(window, gift[0]))
            self.assertEqual(told, pair_of(wanted))

    def test_the_greatest_machines(self):
        chance = random.Random(243)
        for machine in GREAT:
            window = tuple(range(len(machine[1])))
            load = made(machine, window, some_gifts(window, 30, chance))
            self.assert_gifts(machine, window, load, 30)
            one, other = machine[1][0]
            apart = added(machine, one_at(machine, one), scaled(machine, one_at(machine, other), (-1, 1)))
            # What stood so behind a beat rolled from where it was shared.
            self.assert_text(Never, gifts_for, machine, window, behind_roll(machine, apart), 30)

    def test_refused(self):
        load = empty(TWICE)
        for window in [(), (0, 0), (1, 0), (2,), (True,), [0]] + odd_things():
            self.assert_text(NoTouch, gifts_for, TWICE, window, None, None)
        self.assert_text(NoTouch, gifts_for, LONELY, (0,), empty(LONELY), 1)
        for thing in [empty(TWO_WHEELS)] + odd_things():
            self.assert_place(BadLoad, None, gifts_for, TWICE, (0,), thing, None)
        self.assert_place(BadLoad, (1, 0), gifts_for, TWO_WHEELS, (0,), (((0, 1),) * 2, (None,) * 3), 31)
        for many in NO_MANY + odd_things():
            self.assert_text(OutOfPlace, gifts_for, TWICE, (0,), load, many)
            self.assert_text(OutOfPlace, gifts_for, HALF_ROUND, (0,), whole_load([1, 0, 0, 0, 0, 0]), many)


def behind_roll(machine, load):
    return tuple(row[1:] + row[:1] for row in load)


class NoMachine(WheelTest):
    def test_ahead_of_all_else(self):
        for call, many in ((made, 2), (gifts_for, 3)):
            self.assert_no_machine_ahead(call, *[None] * many)

    def test_by_names_and_told_again(self):
        load = whole_load([0, 2], [0, 0, 2])
        self.assertEqual(made(machine=TWO_WHEELS, window=(0,), gifts=(((4, 1),),)), load)
        self.assertEqual(gifts_for(machine=TWO_WHEELS, window=(0,), load=load, many=1), (((4, 1),),))
        chance = random.Random(244)
        for machine, window, many in some_asked(245, 9) + [(MOST_CELLS_ALONE, (2, 7), 9)]:
            gifts = some_gifts(window, many, chance)
            self.assert_told_again(made, machine, window, gifts)
            self.assert_told_again(gifts_for, machine, window, behind(machine, made(machine, window, gifts), 0), many)
