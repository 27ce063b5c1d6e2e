"""ENGINES: deeds one behind another, taken back, twins, what is MET, GIVEN and OWED."""

import random
from fractions import Fraction

from evenwheels.aims import aim
from evenwheels.classes import class_sums
from evenwheels.ends import evened, is_even
from evenwheels.engine import Engine
from evenwheels.errors import BadLoad, BadSpot, Never, NoTouch, OutOfPlace, TooGreat
from evenwheels.fractions import less, plus
from evenwheels.loads import added, behind, empty, one_at, readings, scaled, squares
from evenwheels.machines import spots
from evenwheels.more import free_spots, idle_pairs, lifted, put_on
from evenwheels.owed import met, owed
from tests.support import (
    GREAT, HALF_ROUND, LONELY, MACHINES, MOST_CELLS_ALONE, TWICE, TWO_WHEELS, Same, WheelTest, holds_of, load_of,
    odd_things, pair_of, plain_beat, random_load, some_machines, whole_load,
)

NO_ROLLS = [0, -1, 301, 10 ** 500, True, False, 1.0, "1", None, (1,), [1]]
NO_FRACTIONS = [1, (1,), (1, 2, 3), (2, 4), (0, 2), (1, 0), (1, -2), (True, 1), (1, True), [1, 2], None, Same()]
NO_SPOTS = [(0, 4), (2, 0), (-1, 0), [0, 0], (False, 0), (0, True), (0, 0, 0), (0,), None, "0", Same()]


def state(engine):
    return (engine.machine(), engine.load(), engine.clock(), engine.sums(), engine.met_so_far(), engine.worth_given(),
            engine.owed())


def some_deed(engine, chance):
    """Does some deed that can be done."""
    kind = chance.randrange(4)
    free = free_spots(engine.machine())
    if kind == 0:
        engine.roll(chance.randint(1, 9))
    elif kind == 1 and len(free) > 1 and len(engine.machine()[1]) < 8:
        engine.put_on(*chance.sample(free, 2))
    elif kind == 2 and engine.machine()[1]:
        engine.lift(chance.randrange(len(engine.machine()[1])))
    else:
        worth = Fraction(chance.randint(-9, 9), chance.randint(1, 5))
        engine.give(chance.choice(spots(engine.machine())), pair_of(worth))


class AtFirst(WheelTest):
    def test_as_made(self):
        load = whole_load([1, 2], [5, 6, 7])
        engine = Engine(TWO_WHEELS, load)
        self.assertEqual(engine.machine(), TWO_WHEELS)
        self.assertEqual(engine.load(), load)
        self.assertEqual(engine.clock(), 0)
        self.assertEqual(engine.sums(), ((21, 1),))
        self.assertEqual(engine.met_so_far(), (0, 1))
        self.assertEqual(engine.worth_given(), (0, 1))
        self.assertEqual(engine.owed(), owed(TWO_WHEELS, load))
        self.assertEqual(len(engine), 0)

    def test_bad_machines_and_loads(self):
        self.assert_no_machine_ahead(Engine, None)
        for thing in odd_things():
            self.assert_place(BadLoad, None, Engine, TWO_WHEELS, thing)
        self.assert_place(BadLoad, None, Engine, TWICE, empty(TWO_WHEELS))
        self.assert_place(BadLoad, (1, 2), Engine, TWO_WHEELS, (((1, 1), (1, 1)), ((1, 1), (1, 1), (2, 2))))

    def test_by_names(self):
        engine = Engine(machine=TWO_WHEELS, load=whole_load([1, 2], [5, 6, 7]))
        self.assertEqual(engine.roll(beats=2), [((3, 1),), ((4, 1),)])
        self.assertIsNone(engine.give(spot=(0, 1), by=(1, 2)))
        self.assertEqual(engine.put_on(spot=(1, 2), other=(0, 1)), 1)
        self.assertIsNone(engine.lift(touch=0))
        self.assertIsNone(engine.undo())
        self.assertEqual(len(engine), 3)


class Roll(WheelTest):
    def test_by_hand(self):
        engine = Engine(TWO_WHEELS, whole_load([1, 2], [5, 6, 7]))
        self.assertEqual(engine.roll(2), [((3, 1),), ((4, 1),)])
        self.assertEqual(engine.clock(), 2)
        # Half of 4 and 4 squared, twice.
        self.assertEqual(engine.met_so_far(), (16, 1))
        self.assertEqual(engine.load(), whole_load([3, 4], [7, 3, 4]))
        self.assertEqual(engine.roll(1), [((5, 1),)])
        self.assertEqual((engine.clock(), engine.met_so_far()), (3, (24, 1)))

    def test_what_is_read_and_met(self):
        chance = random.Random(360)
        for machine in some_machines()[::2]:
            load = random_load(machine, chance)
            engine = Engine(machine, load)
            so_far, clock = (0, 1), 0
            for beats in (1, 4, 7):
                told = engine.roll(beats)
                self.assertIs(type(told), list)
                self.assertEqual(told, readings(machine, load, beats))
                for _ in range(beats):
                    so_far = plus(so_far, met(machine, load))
                    load = load_of(machine, plain_beat(machine, holds_of(load)))
                clock += beats
                self.assertEqual((engine.load(), engine.clock(), engine.met_so_far()), (load, clock, so_far))
                self.assertEqual(engine.worth_given(), (0, 1))
                self.assertEqual(engine.sums(), class_sums(machine, load))

    def test_met_and_owed_together_stay(self):
        chance = random.Random(361)
        for machine in some_machines()[::3]:
            engine = Engine(machine, random_load(machine, chance))
            ahead = engine.owed()
            for beats in (1, 2, 9):
                engine.roll(beats)
                self.assertEqual(plus(engine.met_so_far(), engine.owed()), ahead)

    def test_refused(self):
        engine = Engine(TWO_WHEELS, whole_load([1, 2], [5, 6, 7]))
        ahead = state(engine)
        for thing in NO_ROLLS + odd_things():
            self.assert_text(OutOfPlace, engine.roll, thing)
        self.assertEqual((state(engine), len(engine)), (ahead, 0))

    def test_the_greatest_machines(self):
        chance = random.Random(362)
        for machine in GREAT:
            load = random_load(machine, chance)
            engine = Engine(machine, load)
            self.assertEqual(len(engine.roll(300)), 300)
            self.assertEqual(engine.load(), behind(machine, load, 300))
            self.assertEqual(engine.clock(), 300)


class Give(WheelTest):
    def test_by_hand(self):
        engine = Engine(TWO_WHEELS, whole_load([1, 2], [5, 6, 7]))
        self.assertIsNone(engine.give((0, 1), (3, 1)))
        self.assertEqual(engine.load(), whole_load([1, 5], [5, 6, 7]))
        self.assertEqual(engine.worth_given(), (21, 1))
        self.assertIsNone(engine.give((0, 1), (-5, 1)))
        self.assertEqual(engine.load(), whole_load([1, 0], [5, 6, 7]))
        self.assertEqual(engine.worth_given(), (-4, 1))
        engine.give((1, 2), (1, 2))
        self.assertEqual(engine.worth_given(), (13, 4))
        self.assertEqual((engine.clock(), engine.met_so_far(), len(engine)), (0, (0, 1), 3))
        # Nought given is a deed, too.
        engine.give((1, 2), (0, 1))
        self.assertEqual((engine.worth_given(), len(engine)), ((13, 4), 4))

    def test_refused(self):
        engine = Engine(TWICE, random_load(TWICE, random.Random(363)))
        ahead = state(engine)
        for thing in NO_SPOTS + odd_things():
            self.assert_place(BadSpot, None, engine.give, thing, None)
            self.assert_place(BadSpot, None, engine.give, thing, (1, 1))
        for thing in NO_FRACTIONS + odd_things():
            self.assert_text(OutOfPlace, engine.give, (0, 0), thing)
        self.assertEqual((state(engine), len(engine)), (ahead, 0))

    def test_so_that_it_is_even(self):
        # The least that has to be given is evened less what stands: its squares are what is owed.
        chance = random.Random(364)
        for machine in some_machines()[::6]:
            load = random_load(machine, chance)
            engine = Engine(machine, load)
            owing = engine.owed()
            lacking = added(machine, evened(machine, load), scaled(machine, load, (-1, 1)))
            self.assertEqual(squares(machine, lacking), owing)
            for wheel, place in spots(machine):
                engine.give((wheel, place), lacking[wheel][place])
            self.assertTrue(is_even(machine, engine.load()))
            self.assertEqual(engine.owed(), (0, 1))
            self.assertEqual(engine.worth_given(), less((0, 1), owing))

    def test_aimed(self):
        load = whole_load([1, 2], [5, 6, 7])
        engine = Engine(TWO_WHEELS, load)
        engine.give((1, 2), aim(TWO_WHEELS, load, 0, 2, (1, 2), (6, 1)))
        self.assertEqual(engine.roll(3)[2], ((6, 1),))


class PutOnAndLift(WheelTest):
    def test_by_hand(self):
        engine = Engine(TWO_WHEELS, whole_load([1, 2], [5, 6, 7]))
        self.assertEqual(engine.put_on((1, 2), (0, 1)), 1)
        self.assertEqual(engine.machine(), ((2, 3), (((0, 0), (1, 0)), ((0, 1), (1, 2)))))
        self.assertIsNone(engine.lift(0))
        self.assertEqual(engine.machine(), ((2, 3), (((0, 1), (1, 2)),)))
        self.assertEqual(engine.put_on((0, 0), (1, 1)), 0)
        self.assertEqual(engine.load(), whole_load([1, 2], [5, 6, 7]))
        self.assertEqual((engine.clock(), engine.met_so_far(), engine.worth_given(), len(engine)), (
            0, (0, 1), (0, 1), 3))
        self.assertEqual(engine.roll(1), [((7, 2), (9, 2))])

    def test_the_number_of_the_new_touch(self):
        chance = random.Random(365)
        for machine in some_machines():
            free = free_spots(machine)
            if len(free) > 1 and len(machine[1]) < 8:
                engine = Engine(machine, empty(machine))
                one, other = chance.sample(free, 2)
                number = engine.put_on(one, other)
                self.assertEqual(engine.machine(), put_on(machine, one, other))
                self.assertEqual(engine.machine()[1][number], tuple(sorted((one, other))))
                engine.lift(number)
                self.assertEqual(engine.machine(), machine)

    def test_owed_is_no_less_and_of_an_idle_one_as_ahead(self):
        chance = random.Random(366)
        for machine in some_machines():
            free = free_spots(machine)
            if len(free) > 1 and len(machine[1]) < 8:
                engine = Engine(machine, random_load(machine, chance))
                ahead, idle = engine.owed(), idle_pairs(machine)
                for pair in [chance.sample(free, 2), *idle[:1]]:
                    engine.put_on(*pair)
                    now = engine.owed()
                    self.assertGreaterEqual(Fraction(*now), Fraction(*ahead))
                    if tuple(sorted(pair)) in idle:
                        self.assertEqual(now, ahead)
                    engine.undo()
                    self.assertEqual(engine.owed(), ahead)

    def test_refused_as_in_more(self):
        engine = Engine(TWICE, random_load(TWICE, random.Random(367)))
        ahead = state(engine)
        for thing in NO_SPOTS + [(0, 0), (1, 1)] + odd_things():
            self.assert_place(BadSpot, 0, engine.put_on, thing, None)
            self.assert_place(BadSpot, 0, engine.put_on, thing, (0, 1))
            self.assert_place(BadSpot, 1, engine.put_on, (0, 1), thing)
        self.assert_place(BadSpot, 1, engine.put_on, (0, 1), (0, 1))
        for thing in [2, -1, (0,), 10 ** 500] + odd_things():
            self.assert_text(NoTouch, engine.lift, thing)
        self.assertEqual((state(engine), len(engine)), (ahead, 0))
        full = Engine(MOST_CELLS_ALONE, empty(MOST_CELLS_ALONE))
        self.assert_text(TooGreat, full.put_on, (0, 20), (0, 21))
        self.assert_place(BadSpot, 0, full.put_on, (0, 0), (0, 21))
        self.assert_place(BadSpot, 1, full.put_on, (0, 21), (0, 0))
        self.assertEqual(len(full), 0)
        self.assert_text(NoTouch, Engine(LONELY, empty(LONELY)).lift, 0)


class Undo(WheelTest):
    def test_never(self):
        engine = Engine(TWO_WHEELS, empty(TWO_WHEELS))
        self.assert_text(Never, engine.undo)
        engine.roll(1)
        engine.undo()
        self.assert_text(Never, engine.undo)
        self.assertEqual(state(engine), state(Engine(TWO_WHEELS, empty(TWO_WHEELS))))

    def test_all_deeds_back(self):
        chance = random.Random(368)
        for machine in some_machines()[::2]:
            engine = Engine(machine, random_load(machine, chance))
            ahead = []
            for _ in range(12):
                if ahead and chance.random() < 0.3:
                    self.assertIsNone(engine.undo())
                    self.assertEqual(state(engine), ahead.pop())
                else:
                    ahead.append(state(engine))
                    some_deed(engine, chance)
                self.assertEqual(len(engine), len(ahead))
            while ahead:
                engine.undo()
                self.assertEqual(state(engine), ahead.pop())
                self.assertEqual(len(engine), len(ahead))
            self.assert_text(Never, engine.undo)

    def test_squares_are_those_at_first_and_given_less_met(self):
        chance = random.Random(369)
        for machine in some_machines()[::3]:
            load = random_load(machine, chance)
            engine = Engine(machine, load)
            for _ in range(15):
                some_deed(engine, chance)
                wanted = less(plus(squares(machine, load), engine.worth_given()), engine.met_so_far())
                self.assertEqual(squares(engine.machine(), engine.load()), wanted)
                self.assertEqual(engine.sums(), class_sums(engine.machine(), engine.load()))
                self.assertEqual(engine.owed(), owed(engine.machine(), engine.load()))


class Twin(WheelTest):
    def test_it_goes_by_itself(self):
        chance = random.Random(370)
        for machine in MACHINES:
            engine = Engine(machine, random_load(machine, chance))
            ahead = [state(engine)]
            for _ in range(4):
                some_deed(engine, chance)
                ahead.append(state(engine))
            twin = engine.twin()
            self.assertIs(type(twin), Engine)
            self.assertEqual((state(twin), len(twin)), (ahead[-1], 4))
            some_deed(twin, chance)
            twin.roll(1)
            self.assertEqual((state(engine), len(engine)), (ahead[-1], 4))
            kept = state(twin)
            engine.undo()
            engine.undo()
            self.assertEqual((state(twin), len(twin)), (kept, 6))
            for at in reversed(range(4)):
                while len(twin) > at:
                    twin.undo()
                self.assertEqual(state(twin), ahead[at])
            self.assert_text(Never, twin.undo)
            self.assertEqual((state(engine), len(engine)), (ahead[2], 2))


class Equal(WheelTest):
    def test_of_the_same(self):
        load = whole_load([1, 2], [5, 6, 7])
        engine, other = Engine(TWO_WHEELS, load), Engine(TWO_WHEELS, load)
        self.assertTrue(engine == other)
        self.assertFalse(engine != other)
        engine.roll(3)
        self.assertFalse(engine == other)
        other.roll(1)
        other.roll(2)
        # Deeds don't count.
        self.assertTrue(engine == other)
        self.assertNotEqual(len(engine), len(other))
        other.give((0, 0), (0, 1))
        self.assertTrue(engine == other)
        self.assertTrue(engine.twin() == engine)

    def test_unlike_in_one_thing_alone(self):
        half = ((2,), (((0, 0), (0, 1)),))
        self.assertFalse(Engine(half, whole_load([1, 1])) == Engine(((2,), ()), whole_load([1, 1])))
        self.assertFalse(Engine(half, whole_load([1, 1])) == Engine(half, whole_load([1, 2])))
        rolled = Engine(half, whole_load([1, 1]))
        rolled.roll(1)
        self.assertEqual(rolled.load(), whole_load([1, 1]))
        self.assertFalse(rolled == Engine(half, whole_load([1, 1])))
        # The same load, met and not met.
        one, other = Engine(half, whole_load([3, 1])), Engine(half, whole_load([2, 2]))
        one.roll(1)
        other.roll(1)
        self.assertEqual((one.load(), one.clock(), one.worth_given()), (other.load(), 1, other.worth_given()))
        self.assertFalse(one == other)
        # Given, met and clock as ahead, of another load at first.
        one, other = Engine(half, whole_load([1, 0])), Engine(half, whole_load([2, 0]))
        one.give((0, 0), (1, 1))
        self.assertEqual((one.load(), one.clock(), one.met_so_far()), (other.load(), 0, other.met_so_far()))
        self.assertFalse(one == other)

    def test_what_is_no_engine(self):
        engine = Engine(LONELY, empty(LONELY))
        for thing in odd_things() + [LONELY, empty(LONELY), state(engine), (LONELY, empty(LONELY), 0, (0, 1), (0, 1))]:
            self.assertIs(engine == thing, False)
            self.assertIs(engine != thing, True)
        self.assertIs(engine == engine, True)


class TheAskersOwn(WheelTest):
    def test_what_is_told(self):
        load = random_load(HALF_ROUND, random.Random(371))
        engine = Engine(HALF_ROUND, load)
        told = engine.roll(4)
        kept = list(told)
        told.clear()
        engine.undo()
        self.assertEqual(engine.roll(4), kept)
        self.assertEqual(state(engine), state(engine))
        self.assertEqual(repr(load), repr(random_load(HALF_ROUND, random.Random(371))))

    def test_lifted_at_all(self):
        engine = Engine(TWICE, one_at(TWICE, (0, 1)))
        while engine.machine()[1]:
            ahead = engine.machine()
            engine.lift(len(ahead[1]) - 1)
            self.assertEqual(engine.machine(), lifted(ahead, len(ahead[1]) - 1))
        self.assertEqual(engine.roll(2), [(), ()])
        self.assertEqual(engine.owed(), (0, 1))
