"""Whole numbers and FRACTIONS."""

import random
from fractions import Fraction

from evenwheels.errors import OutOfPlace
from evenwheels.fractions import (
    fraction, half, is_fraction, is_nought, is_whole, less, lowest, need_fraction, over, plus, times, total,
)
from tests.support import WheelTest, odd_things, pair_of

GREAT = 3 ** 2000


class Kinds(WheelTest):
    def test_whole_numbers(self):
        for number in (0, 1, -1, 30, 10 ** 500, -10 ** 500):
            self.assertIs(is_whole(number), True)

    def test_no_whole_numbers(self):
        for at, thing in enumerate(odd_things() + [(0, 1), (1,), "1"]):
            self.assertIs(is_whole(thing), False, at)

    def test_fractions(self):
        for thing in ((0, 1), (1, 1), (-1, 1), (1, 2), (-7, 30), (GREAT, 2), (-2, GREAT), (GREAT, GREAT + 1)):
            self.assertIs(is_fraction(thing), True)

    def test_not_in_lowest_terms(self):
        for thing in ((2, 2), (2, 4), (0, 2), (-3, 6), (30, 12), (GREAT, 3), (2 * GREAT, 2 * GREAT + 2)):
            self.assertIs(is_fraction(thing), False)

    def test_bottoms_of_nought_or_below(self):
        for thing in ((1, 0), (0, 0), (-1, 0), (1, -1), (1, -2), (0, -1), (-1, -2)):
            self.assertIs(is_fraction(thing), False)

    def test_no_fractions(self):
        others = [(), (1,), (1, 2, 3), (0, 1, 1), [1, 2], "12", (True, 1), (1, True), (False, 1), (1.0, 1), (1, 1.0),
                  ("1", 1), (1, None), ((1, 2), 1), (1, (1, 2)), 0, 1, Fraction(1, 2), {1: 2}]
        for at, thing in enumerate(odd_things() + others):
            self.assertIs(is_fraction(thing), False, at)

    def test_need_fraction(self):
        self.assertIsNone(need_fraction((3, 4)))
        for thing in odd_things() + [(2, 4), 1]:
            self.assert_text(OutOfPlace, need_fraction, thing)


class Made(WheelTest):
    def test_by_hand(self):
        self.assertEqual(fraction(6, 4), (3, 2))
        self.assertEqual(fraction(0, 9), (0, 1))
        self.assertEqual(fraction(7), (7, 1))
        self.assertEqual(fraction(-8), (-8, 1))
        self.assertEqual(fraction(top=10, bottom=15), (2, 3))
        self.assertEqual(fraction(top=3), (3, 1))

    def test_negative_bottoms(self):
        self.assertEqual(fraction(6, -4), (-3, 2))
        self.assertEqual(fraction(-6, -4), (3, 2))
        self.assertEqual(fraction(0, -4), (0, 1))
        self.assertEqual(fraction(5, -1), (-5, 1))

    def test_very_great(self):
        self.assertEqual(fraction(GREAT * 4, -GREAT * 6), (-2, 3))
        self.assertEqual(fraction(GREAT, GREAT + 1), (GREAT, GREAT + 1))

    def test_refused(self):
        for thing in odd_things():
            self.assert_text(OutOfPlace, fraction, thing)
            self.assert_text(OutOfPlace, fraction, thing, 2)
            self.assert_text(OutOfPlace, fraction, 1, thing)
        for top in (0, 1, -1, GREAT):
            self.assert_text(OutOfPlace, fraction, top, 0)

    def test_lowest_is_a_fraction(self):
        for top in range(-12, 13):
            for bottom in [number for number in range(-12, 13) if number]:
                self.assertEqual(lowest(top, bottom), pair_of(Fraction(top, bottom)))
                self.assertEqual(fraction(top, bottom), pair_of(Fraction(top, bottom)))


class Reckoned(WheelTest):
    def some(self):
        chance = random.Random(5)
        found = [Fraction(0), Fraction(1), Fraction(-1), Fraction(1, 2), Fraction(-3, 4), Fraction(30)]
        found += [Fraction(chance.randint(-40, 40), chance.randint(1, 40)) for _ in range(20)]
        found += [Fraction(chance.randint(-GREAT, GREAT), chance.randint(1, GREAT)) for _ in range(3)]
        return found

    def test_by_hand(self):
        self.assertEqual(plus((1, 2), (1, 3)), (5, 6))
        self.assertEqual(plus((1, 2), (-1, 2)), (0, 1))
        self.assertEqual(less((1, 2), (1, 3)), (1, 6))
        self.assertEqual(less((1, 6), (2, 3)), (-1, 2))
        self.assertEqual(times((2, 3), (9, 4)), (3, 2))
        self.assertEqual(over((2, 3), (4, 9)), (3, 2))
        self.assertEqual(over((2, 3), (-4, 9)), (-3, 2))
        self.assertEqual(half((4, 3)), (2, 3))
        self.assertEqual(half((-3, 2)), (-3, 4))
        self.assertEqual(half((0, 1)), (0, 1))

    def test_all_pairs(self):
        for one in self.some():
            for other in self.some():
                pair = (pair_of(one), pair_of(other))
                self.assertEqual(plus(*pair), pair_of(one + other))
                self.assertEqual(less(*pair), pair_of(one - other))
                self.assertEqual(times(*pair), pair_of(one * other))
                if other:
                    self.assertEqual(over(*pair), pair_of(one / other))

    def test_of_one(self):
        for one in self.some():
            self.assertEqual(half(pair_of(one)), pair_of(one / 2))
            self.assertIs(is_nought(pair_of(one)), one == 0)

    def test_over_by_nought(self):
        for one in self.some():
            self.assert_text(OutOfPlace, over, pair_of(one), (0, 1))

    def test_by_names(self):
        self.assertEqual(plus(one=(1, 2), other=(1, 3)), (5, 6))
        self.assertEqual(less(one=(1, 2), other=(1, 3)), (1, 6))
        self.assertEqual(times(one=(1, 2), other=(1, 3)), (1, 6))
        self.assertEqual(over(one=(1, 2), other=(1, 3)), (3, 2))
        self.assertEqual(half(one=(1, 2)), (1, 4))
        self.assertIs(is_nought(one=(0, 1)), True)
        self.assertIs(is_whole(thing=1), True)
        self.assertIs(is_fraction(thing=(1, 2)), True)

    def test_total(self):
        self.assertEqual(total([]), (0, 1))
        self.assertEqual(total(((1, 2), (1, 3), (1, 6))), (1, 1))
        self.assertEqual(total([(-7, 6)]), (-7, 6))
        self.assertEqual(total([(1, 6), (-1, 10), (1, 15), (5, 1)]), (77, 15))
        self.assertEqual(total([(1, 2 ** at) for at in range(1, 301)]), (2 ** 300 - 1, 2 ** 300))
        chance = random.Random(4)
        worths = [Fraction(chance.randint(-99, 99), chance.randint(1, 99)) for _ in range(30)]
        told = total([(worth.numerator, worth.denominator) for worth in worths])
        self.assertEqual(Fraction(*told), sum(worths))
        self.assertTrue(is_fraction(told))
