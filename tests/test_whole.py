"""What the document says of several files together: crossed over, named, mirrored, TOUCHES put on and lifted."""

import random
from fractions import Fraction

from evenwheels.aims import least_aim
from evenwheels.alike import many_names, named, names_between
from evenwheels.classes import class_sums, classes
from evenwheels.crossing import crossed, load_crossed, places_crossed
from evenwheels.ends import evened, is_even
from evenwheels.engine import Engine
from evenwheels.errors import TooGreat
from evenwheels.lean import core, is_needless, lean
from evenwheels.loads import added, behind, held, is_load, one_at, read, readings
from evenwheels.machines import cells, is_machine, spots
from evenwheels.making import gifts_for, made
from evenwheels.mirror import mirror, mirror_touch, paired, turned
from evenwheels.more import free_spots, how_many_classes, idle_pairs, lifted, put_on
from evenwheels.owed import first_met, met, owed
from evenwheels.pasts import depth, has_past, least_past
from evenwheels.rest import rest_beat, rests
from evenwheels.rules import how_many_die, left_over, rule_of, whole_rule
from evenwheels.shifts import g_of
from evenwheels.silence import is_silent, silent, told_spots
from evenwheels.web import lots
from evenwheels.webs import are_one_web, count_of_rounds, cross_paper, word_machine
from evenwheels.windows import looks, rank, sees, shortest
from tests.support import WheelTest, random_load, some_machines, some_names, some_window

ONE = ((1, 1),)


def some_crossings(seed, every):
    """Machines, and touches at which they are crossed over."""
    chance = random.Random(seed)
    found = []
    for machine in some_machines()[::every]:
        many = len(machine[1])
        numbers = tuple(sorted(chance.sample(range(many), chance.randint(min(1, many), many))))
        try:
            crossed(machine, numbers)
        except TooGreat:
            continue
        found.append((machine, numbers))
    return found


def window_crossed(machine, numbers, window):
    """The numbers of these touches in what is crossed over."""
    places, pairs = places_crossed(machine, numbers), crossed(machine, numbers)[1]
    return [pairs.index(tuple(sorted(places[spot] for spot in machine[1][touch]))) for touch in window]


class CrossedOver(WheelTest):
    def test_what_stays_of_the_machine(self):
        for machine, numbers in some_crossings(401, 1):
            then = crossed(machine, numbers)
            self.assertEqual(whole_rule(then), whole_rule(machine))
            self.assertEqual(how_many_die(then), how_many_die(machine))
            self.assertEqual(how_many_classes(then), how_many_classes(machine))
            self.assertIs(rests(then), rests(machine))
            places = places_crossed(machine, numbers)
            moved = sorted(tuple(sorted(places[spot] for spot in members)) for members in classes(machine))
            self.assertEqual(sorted(classes(then)), moved)

    def test_it_rests_as_soon(self):
        for machine, numbers in some_crossings(402, 1):
            if rests(machine):
                self.assertEqual(rest_beat(crossed(machine, numbers)), rest_beat(machine))

    def test_what_stays_of_a_load(self):
        chance = random.Random(403)
        for machine, numbers in some_crossings(404, 2):
            then, load = crossed(machine, numbers), random_load(machine, chance)
            along = load_crossed(machine, load, numbers)
            self.assertEqual(owed(then, along), owed(machine, load))
            self.assertEqual(met(then, along), met(machine, load))
            self.assertEqual(first_met(then, along), first_met(machine, load))
            self.assertEqual(held(then, along), held(machine, load))
            self.assertEqual(sorted(class_sums(then, along)), sorted(class_sums(machine, load)))
            self.assertEqual(evened(then, along), load_crossed(machine, evened(machine, load), numbers))
            for beats in (0, 2):
                load, along = behind(machine, load, beats), behind(then, along, beats)
                self.assertEqual(depth(then, along), depth(machine, load))

    def test_what_stays_of_what_touches_tell(self):
        chance = random.Random(405)
        for machine, numbers in some_crossings(406, 3):
            if machine[1]:
                then, window = crossed(machine, numbers), some_window(machine, chance)
                across = tuple(sorted(window_crossed(machine, numbers, window)))
                self.assertEqual(sees(then, across), sees(machine, window))
                self.assertEqual(rank(then, across, 2), rank(machine, window, 2))
                places = places_crossed(machine, numbers)
                self.assertEqual(sorted(places[spot] for spot in told_spots(machine, window)),
                                 list(told_spots(then, across)))
                for load in silent(machine, window)[:3]:
                    self.assertIs(is_silent(then, across, load_crossed(machine, load, numbers)), True)
                for touch, beyond in zip(window, window_crossed(machine, numbers, window)):
                    self.assertEqual(shortest(then, beyond), shortest(machine, touch))

    def test_engines_go_alike(self):
        chance = random.Random(407)
        for machine, numbers in some_crossings(408, 6):
            load = random_load(machine, chance)
            places = places_crossed(machine, numbers)
            one, other = Engine(machine, load), Engine(crossed(machine, numbers), load_crossed(machine, load, numbers))
            for spot in spots(machine)[::6]:
                one.give(spot, (1, 3))
                other.give(places[spot], (1, 3))
                self.assertEqual([sorted(row) for row in other.roll(3)], [sorted(row) for row in one.roll(3)])
            self.assertEqual((other.met_so_far(), other.worth_given(), other.owed()), (
                one.met_so_far(), one.worth_given(), one.owed()))
            self.assertEqual(other.load(), load_crossed(machine, one.load(), numbers))


class Named(WheelTest):
    def test_all_stays(self):
        chance = random.Random(409)
        for machine in some_machines()[::2]:
            then = named(machine, some_names(machine, chance))
            self.assertIs(are_one_web(machine, then), True)
            self.assertEqual(cross_paper(machine, then)[0], ())
            self.assertEqual(whole_rule(then), whole_rule(machine))
            self.assertEqual(many_names(then), many_names(machine))
            self.assertEqual(how_many_classes(then), how_many_classes(machine))
            self.assertEqual(len(idle_pairs(then)), len(idle_pairs(machine)))
            self.assertEqual(len(core(then)), len(core(machine)))
            mine, yours = [[is_needless(one, touch) for touch in range(len(one[1]))] for one in (machine, then)]
            self.assertEqual(sorted(mine), sorted(yours))


class Mirrored(WheelTest):
    def test_what_stays(self):
        for machine in some_machines():
            across = mirror(machine)
            self.assertEqual(whole_rule(across), whole_rule(machine))
            self.assertIs(rests(across), rests(machine))
            self.assertEqual(how_many_classes(across), how_many_classes(machine))
            self.assertEqual(many_names(across), many_names(machine))
            self.assertEqual([count_of_rounds(across, lot[0]) for lot in lots(across)],
                             [count_of_rounds(machine, lot[0]) for lot in lots(machine)])
            self.assertEqual(len(core(across)), len(core(machine)))

    def test_crossed_over_it_has_one_web_with_its_mirror(self):
        for machine, numbers in some_crossings(410, 2):
            self.assertIs(are_one_web(mirror(machine), mirror(crossed(machine, numbers))), True)

    def test_what_hands_make_there_and_eyes_see_here(self):
        chance = random.Random(411)
        for machine in some_machines()[::5]:
            if machine[1]:
                window, load = some_window(machine, chance), random_load(machine, chance)
                across = tuple(sorted(mirror_touch(machine, touch) for touch in window))
                # Gifts made by the mirror's touches, beat by beat, are what the window's looks are paired with.
                beats = chance.randint(1, 4)
                seen = looks(machine, window, load, beats)
                gifts = [[(chance.randint(-3, 3), 1) for _ in window] for _ in range(beats)]
                order = [window[[mirror_touch(machine, touch) for touch in window].index(touch)] for touch in across]
                told = made(mirror(machine), across, tuple(
                    tuple(gift[window.index(touch)] for touch in order) for gift in reversed(gifts)))
                wanted = sum(Fraction(*by) * Fraction(*worth) for gift, looked in zip(gifts, seen)
                             for by, worth in zip(gift, looked))
                self.assertEqual(Fraction(*paired(machine, turned(machine, told), load)), wanted)


class PutOnAndLifted(WheelTest):
    def test_needless_ones_lifted_leave_the_end(self):
        chance = random.Random(412)
        for machine in some_machines():
            load = random_load(machine, chance)
            fewer = (machine[0], tuple(machine[1][number] for number in core(machine)))
            for then in (lean(machine), fewer):
                self.assertTrue(is_machine(then))
                self.assertEqual(evened(then, load), evened(machine, load))
                self.assertEqual(owed(then, load), owed(machine, load))

    def test_a_touch_more_makes_owed_no_less(self):
        chance = random.Random(413)
        for machine in some_machines():
            free = free_spots(machine)
            load = random_load(machine, chance)
            if len(free) > 1 and len(machine[1]) < 8:
                then = put_on(machine, *chance.sample(free, 2))
                self.assertGreaterEqual(Fraction(*owed(then, load)), Fraction(*owed(machine, load)))
                self.assertLessEqual(how_many_classes(then), how_many_classes(machine))
                if is_even(then, load):
                    self.assertTrue(is_even(machine, load))

    def test_lifted_all_one_by_one(self):
        for machine in some_machines()[::4]:
            left = machine
            while left[1]:
                left = lifted(left, len(left[1]) // 2)
            self.assertEqual(how_many_classes(left), cells(left))
            self.assertEqual(left, (machine[0], ()))


class Rested(WheelTest):
    def test_the_count_of_rounds_where_it_rests(self):
        asked = 0
        for machine in some_machines() + [word_machine(many) for many in range(4)]:
            if len(lots(machine)) == 1 and rests(machine):
                asked += 1
                wanted = Fraction(2 ** len(machine[1]) * g_of(machine, 0), cells(machine))
                self.assertEqual(count_of_rounds(machine, 0), wanted)
                self.assertEqual(left_over(machine, 0), ONE)
        self.assertGreater(asked, 5)

    def test_all_is_even_and_has_any_past(self):
        chance = random.Random(414)
        for machine in some_machines()[::2] + [word_machine(3)]:
            if rests(machine):
                load = behind(machine, random_load(machine, chance), rest_beat(machine))
                self.assertTrue(is_even(machine, load))
                self.assertIsNone(depth(machine, load))
                self.assertEqual(owed(machine, load), (0, 1))
                self.assertIsNone(first_met(machine, load))


class Asked(WheelTest):
    def test_a_past_read_on_is_what_stands(self):
        chance = random.Random(415)
        for machine in some_machines()[::4]:
            load = behind(machine, random_load(machine, chance), 3)
            past = least_past(machine, load, 3)
            self.assertEqual(readings(machine, past, 6)[3:], readings(machine, load, 3))
            self.assertIs(has_past(machine, load, 3), True)

    def test_gifts_ahead_of_each_beat(self):
        chance = random.Random(416)
        for machine in some_machines()[::4]:
            if machine[1]:
                window = some_window(machine, chance)
                gifts = tuple(tuple((chance.randint(-3, 3), 1) for _ in window) for _ in range(4))
                engine = Engine(machine, tuple(((0, 1),) * count for count in machine[0]))
                for gift in gifts:
                    for touch, (top, _) in zip(window, gift):
                        for spot in machine[1][touch]:
                            engine.give(spot, (top, 2) if top % 2 else (top // 2, 1))
                    engine.roll(1)
                load = made(machine, window, gifts)
                self.assertEqual(engine.load(), load)
                self.assertEqual(made(machine, window, gifts_for(machine, window, load, 4)), load)

    def test_what_is_aimed_is_read_whatever_is_crossed_over(self):
        chance = random.Random(417)
        for machine, numbers in some_crossings(418, 5):
            if machine[1]:
                load = random_load(machine, chance)
                told = added(machine, load, least_aim(machine, load, 0, 4, (5, 3)))
                beyond = window_crossed(machine, numbers, (0,))[0]
                then = crossed(machine, numbers)
                self.assertEqual(readings(then, load_crossed(machine, told, numbers), 5)[4][beyond], (5, 3))

    def test_rule_of_and_read(self):
        chance = random.Random(419)
        for machine in some_machines()[::6]:
            load = random_load(machine, chance)
            self.assertEqual(read(machine, load), readings(machine, load, 1)[0])
            for touch in range(len(machine[1])):
                self.assertEqual(rule_of(machine, touch)[0], (1, 1))
            self.assertTrue(is_load(machine, one_at(machine, spots(machine)[-1])))
            self.assertIsNotNone(names_between(machine, machine))
