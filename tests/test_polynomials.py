"""POLYNOMIALS and how they are reckoned with."""

import random
from fractions import Fraction

from evenwheels.errors import BadRule, OutOfPlace
from evenwheels.polynomials import (
    degree_of, divided_by, is_polynomial, need_polynomial, one_less, out_row, product_of, sum_of, worth_at,
)
from tests.support import DEEP_LIST, DEEP_TUPLE, Same, WheelTest, odd_things, pair_of, within_itself

ONE = ((1, 1),)
NO_FRACTIONS = [1, (1,), (1, 2, 3), (2, 4), (0, 2), (1, 0), (1, -2), (True, 1), (1, True), [1, 2], (1.0, 1), "12",
                (0, -1), (-2, 4), (3, 3), None, True, False, 0, DEEP_TUPLE, Same()]
OF_ONE = (degree_of, out_row)
OF_TWO = (sum_of, product_of, divided_by)


def poly(*worths):
    """A polynomial of whole numbers or fractions, as they stand."""
    return tuple(pair_of(Fraction(worth)) for worth in worths)


def worths_of(one):
    return [Fraction(*worth) for worth in one]


def plain_product(one, other):
    found = [Fraction(0)] * (len(one) + len(other) - 1 if one and other else 0)
    for at, worth in enumerate(one):
        for beside, by in enumerate(other):
            found[at + beside] += worth * by
    return found


def random_poly(chance, degree):
    if degree < 0:
        return ()
    worths = [Fraction(chance.randint(-5, 5), chance.randint(1, 6)) for _ in range(degree)]
    return poly(*worths, Fraction(chance.choice([-7, -2, -1, 1, 3, 4]), chance.randint(1, 5)))


class Kinds(WheelTest):
    def test_polynomials(self):
        for thing in ((), ONE, poly(0, 1), poly(0, 0, -3), poly(1, 0, Fraction(-1, 2)), poly(*[0] * 500, 1),
                      ((10 ** 300, 7),)):
            self.assertIs(is_polynomial(thing), True)
            self.assertIsNone(need_polynomial(thing))

    def refused(self, number, thing):
        self.assertIs(is_polynomial(thing), False)
        self.assert_refused(BadRule, {"number": number}, need_polynomial, thing)

    def test_no_tuple(self):
        others = [[], [(1, 1)], None, "", "ab", {}, {(1, 1): 1}, 0, 1, True, False, set(), DEEP_LIST, within_itself()]
        for thing in others + [thing for thing in odd_things() if type(thing) is not tuple]:
            self.refused(None, thing)

    def test_the_first_that_is_no_fraction(self):
        for thing in NO_FRACTIONS + odd_things():
            self.refused(0, (thing,))
            self.refused(0, (thing, (1, 1)))
            self.refused(0, (thing, thing, (0, 1)))
            self.refused(1, ((0, 1), thing))
            self.refused(1, ((0, 1), thing, None, (0, 1)))
            self.refused(3, ((1, 1), (0, 1), (-1, 2), thing))

    def test_a_last_one_that_is_nought(self):
        self.refused(0, ((0, 1),))
        self.refused(1, ((0, 1), (0, 1)))
        self.refused(2, ((1, 1), (0, 1), (0, 1)))
        self.refused(3, ((1, 1), (0, 1), (2, 1), (0, 1)))

    def test_of_anything(self):
        for thing in odd_things():
            if thing is not None and type(thing) is tuple and len(thing) > 0:
                self.refused(0, thing)
        self.refused(0, (1, 2))
        self.refused(0, ((1, 2, 3), (0, 1)))


class Reckoned(WheelTest):
    def test_degrees(self):
        self.assertEqual(degree_of(()), -1)
        self.assertEqual(degree_of(ONE), 0)
        self.assertEqual(degree_of(poly(0, 0, 5)), 2)
        self.assertEqual(degree_of(one_less(30)), 30)

    def test_sums_by_hand(self):
        self.assertEqual(sum_of((), ()), ())
        self.assertEqual(sum_of((), poly(1, 2)), poly(1, 2))
        self.assertEqual(sum_of(poly(0, 2), ()), poly(0, 2))
        self.assertEqual(sum_of(poly(1, 2, 3), poly(1, Fraction(1, 2))), poly(2, Fraction(5, 2), 3))
        self.assertEqual(sum_of(poly(1, 2), poly(1, 2, 3)), poly(2, 4, 3))
        self.assertEqual(sum_of(poly(1, 2, 3), poly(0, 1, -3)), poly(1, 3))
        self.assertEqual(sum_of(poly(1, 2, 3), poly(0, -2, -3)), poly(1))
        self.assertEqual(sum_of(poly(1, 2, 3), poly(-1, -2, -3)), ())
        self.assertEqual(sum_of(poly(0, 2, 3), poly(1, -2, -3)), poly(1))

    def test_products_by_hand(self):
        self.assertEqual(product_of((), ()), ())
        self.assertEqual(product_of((), poly(1, 2)), ())
        self.assertEqual(product_of(poly(1, 2), ()), ())
        self.assertEqual(product_of(ONE, poly(1, 2)), poly(1, 2))
        self.assertEqual(product_of(poly(1, 1), poly(1, -1)), poly(1, 0, -1))
        self.assertEqual(product_of(poly(0, 1), poly(0, 0, Fraction(2, 3))), poly(0, 0, 0, Fraction(2, 3)))
        self.assertEqual(product_of(poly(2), poly(Fraction(1, 2), -3)), poly(1, -6))

    def test_quotients_by_hand(self):
        self.assertEqual(divided_by(poly(1, 0, -1), poly(1, 1)), (poly(1, -1), ()))
        self.assertEqual(divided_by(poly(1, 0, 0, 1), poly(0, 0, 1)), (poly(0, 1), ONE))
        self.assertEqual(divided_by(poly(5, 0, 2), poly(1, 2)), (poly(Fraction(-1, 2), 1), poly(Fraction(11, 2))))
        self.assertEqual(divided_by(poly(1, 2, 3), poly(2)), (poly(Fraction(1, 2), 1, Fraction(3, 2)), ()))
        self.assertEqual(divided_by(poly(1, 2), poly(1, 2, 3)), ((), poly(1, 2)))
        self.assertEqual(divided_by(poly(1, 2, 3), poly(1, 2, 3)), (ONE, ()))
        self.assertEqual(divided_by((), poly(1, 2)), ((), ()))
        self.assertEqual(divided_by((), poly(3)), ((), ()))
        self.assertEqual(divided_by(poly(7), poly(3)), (poly(Fraction(7, 3)), ()))
        self.assertEqual(divided_by(poly(0, 0, 0, 4), poly(1, 2)), (
            poly(Fraction(1, 2), -1, 2), poly(Fraction(-1, 2))))

    def test_by_nought(self):
        for one in ((), ONE, poly(1, 2, 3)):
            self.assert_text(OutOfPlace, divided_by, one, ())

    def test_worths_by_hand(self):
        self.assertEqual(worth_at((), (5, 1)), (0, 1))
        self.assertEqual(worth_at(poly(7), (5, 3)), (7, 1))
        self.assertEqual(worth_at(poly(1, 2, 3), (0, 1)), (1, 1))
        self.assertEqual(worth_at(poly(1, 2, 3), (1, 1)), (6, 1))
        self.assertEqual(worth_at(poly(1, 2, 3), (-1, 1)), (2, 1))
        self.assertEqual(worth_at(poly(1, 2, 3), (1, 2)), (11, 4))
        self.assertEqual(worth_at(poly(0, 0, 0, Fraction(1, 2)), (-2, 3)), (-4, 27))

    def test_just_as_a_second_telling(self):
        chance = random.Random(70)
        for _ in range(200):
            one, other = random_poly(chance, chance.randint(-1, 7)), random_poly(chance, chance.randint(-1, 7))
            mine, yours = worths_of(one), worths_of(other)
            self.assertEqual(worths_of(product_of(one, other)), plain_product(mine, yours))
            number = Fraction(chance.randint(-9, 9), chance.randint(1, 5))
            worth = sum((by * number ** at for at, by in enumerate(mine)), Fraction(0))
            self.assertEqual(worth_at(one, pair_of(number)), pair_of(worth))
            sums = sum_of(one, other)
            beside = Fraction(*worth_at(other, pair_of(number)))
            self.assertEqual(worth_at(sums, pair_of(number)), pair_of(worth + beside))
            self.assertTrue(is_polynomial(sums))
            self.assertTrue(is_polynomial(product_of(one, other)))
            self.assertEqual(sums, sum_of(other, one))

    def test_what_it_goes_and_what_is_left_make_it_again(self):
        chance = random.Random(71)
        for _ in range(200):
            one, other = random_poly(chance, chance.randint(-1, 9)), random_poly(chance, chance.randint(0, 6))
            told = divided_by(one, other)
            self.assertEqual((type(told), len(told)), (tuple, 2))
            goes, left = told
            self.assertTrue(is_polynomial(goes))
            self.assertTrue(is_polynomial(left))
            self.assertLess(degree_of(left), degree_of(other))
            self.assertEqual(sum_of(product_of(goes, other), left), one)
            self.assertEqual(divided_by(product_of(one, other), other), (one, ()))

    def test_one_less(self):
        self.assertEqual(one_less(1), poly(1, -1))
        self.assertEqual(one_less(2), poly(1, 0, -1))
        self.assertEqual(one_less(5), poly(1, 0, 0, 0, 0, -1))
        for many in range(1, 31):
            self.assertEqual(one_less(many), poly(1, *[0] * (many - 1), -1))

    def test_one_less_of_none(self):
        for thing in [0, -1, 31, 10 ** 500, -10 ** 500, True, False, 1.0, "1", (1,), [1], None] + odd_things():
            self.assert_text(OutOfPlace, one_less, thing)


class OutRow(WheelTest):
    def row(self, one):
        told = out_row(one)
        self.assertIs(type(told), list)
        if told:
            self.assert_fractions(told)
        return [Fraction(*worth) for worth in told]

    def test_one_number_alone(self):
        self.assertEqual(self.row(ONE), [])
        self.assertEqual(self.row(poly(Fraction(-7, 3))), [])

    def test_of_degree_one(self):
        self.assertEqual(self.row(poly(2, 1)), [Fraction(1, 2)])
        self.assertEqual(self.row(poly(2, -1)), [Fraction(-1, 2)])
        self.assertEqual(self.row(poly(-3, 1)), [Fraction(-1, 3)])
        self.assertEqual(self.row(poly(1, 1)), [1])
        self.assertEqual(self.row(poly(1, -1)), [-1])
        self.assertEqual(self.row(poly(1, 3)), [3])
        self.assertEqual(self.row(poly(2, -10)), [-5])

    def test_by_hand(self):
        self.assertEqual(self.row(poly(1, 0, Fraction(-1, 2))), [Fraction(-1, 2), 0])
        self.assertEqual(self.row(poly(1, 1, Fraction(1, 2))), [Fraction(1, 2), Fraction(2, 3)])
        self.assertEqual(self.row(poly(2, 2, 1)), [Fraction(1, 2), Fraction(2, 3)])
        self.assertEqual(self.row(poly(1, -3, Fraction(1, 2))), [Fraction(1, 2), -2])
        self.assertEqual(self.row(poly(4, 4, -1)), [Fraction(-1, 4), Fraction(4, 3)])

    def test_where_nought_stands_last_then(self):
        one = poly(1, Fraction(1, 2), Fraction(1, 4), Fraction(1, 2))
        self.assertEqual(self.row(one), [Fraction(1, 2), 0, Fraction(1, 2)])
        self.assertEqual(self.row(poly(1, 0, 0, 0, Fraction(1, 3))), [Fraction(1, 3), 0, 0, 0])

    def test_there_it_ends(self):
        self.assertEqual(self.row(poly(1, 5, 2)), [2])
        self.assertEqual(self.row(poly(1, 0, 0, -1)), [-1])
        self.assertEqual(self.row(poly(1, 0, 0, 1)), [1])
        self.assertEqual(self.row(poly(1, 7, 7, 7, -8)), [-8])
        self.assertEqual(self.row(poly(2, 3, 3, -1)), [Fraction(-1, 2), 3])
        self.assertEqual(self.row(poly(1, 0, 0, 0, -2)), [-2])

    def test_it_tells_whether_roots_lie_without(self):
        chance = random.Random(72)
        for _ in range(150):
            one, without = poly(chance.choice([-3, 1, 2])), True
            for _ in range(chance.randint(1, 5)):
                if chance.random() < 0.5:
                    root = Fraction(chance.choice([-1, 1]) * chance.randint(2, 9), chance.randint(2, 5))
                    one = product_of(one, poly(-root, 1))
                    without = without and abs(root) > 1
                else:
                    # Two that aren't real, their length squared told.
                    real = Fraction(chance.randint(-6, 6), 4)
                    squared = real * real + Fraction(chance.randint(1, 9), chance.randint(2, 8))
                    one = product_of(one, poly(squared, -2 * real, 1))
                    without = without and squared > 1
            told = self.row(one)
            within = [abs(worth) < 1 for worth in told]
            self.assertIs(all(within), without)
            self.assertTrue(all(within[:-1]))
            if without:
                self.assertEqual(len(told), degree_of(one))

    def test_by_its_own_words(self):
        chance = random.Random(73)
        for _ in range(100):
            one = random_poly(chance, chance.randint(0, 8))
            if one[0] == (0, 1):
                continue
            now = [worth / worths_of(one)[0] for worth in worths_of(one)]
            told = []
            while len(now) > 1:
                last = now[-1]
                told.append(last)
                if not -1 < last < 1:
                    break
                about = now[::-1]
                now = [(worth - last * beside) / (1 - last * last) for worth, beside in zip(now, about)]
                self.assertEqual(now.pop(), 0)
            self.assertEqual(self.row(one), told)

    def test_nothing_at_0(self):
        for one in ((), poly(0, 1), poly(0, 0, 5), poly(0, Fraction(1, 2), Fraction(1, 3))):
            self.assert_text(OutOfPlace, out_row, one)

    def test_great_ones(self):
        chance = random.Random(74)
        one = ONE
        for _ in range(30):
            one = product_of(one, poly(chance.randint(3, 9), chance.choice([-2, -1, 1, 2])))
        self.assertEqual(len(self.row(one)), 30)


class Refused(WheelTest):
    def assert_number(self, number, call, *args):
        self.assert_refused(BadRule, {"number": number}, call, *args)

    def test_polynomials(self):
        bads = [(None, []), (None, None), (0, ((0, 1),)), (1, ((1, 1), (0, 1))), (1, ((1, 1), (2, 4))), (0, (True,)),
                (2, ((1, 1), (0, 1), False)), (0, (None, None))]
        for number, bad in bads:
            for call in OF_ONE:
                self.assert_number(number, call, bad)
            for call in OF_TWO:
                self.assert_number(number, call, bad, ONE)
                self.assert_number(number, call, ONE, bad)
                self.assert_number(number, call, bad, ())
                self.assert_number(number, call, (), bad)
            self.assert_number(number, worth_at, bad, (1, 1))
            self.assert_number(number, worth_at, bad, None)

    def test_anything(self):
        for thing in odd_things():
            number = 0 if type(thing) is tuple and len(thing) > 0 else None
            if thing is not None and type(thing) is tuple and len(thing) == 0:
                continue
            for call in OF_ONE:
                self.assert_number(number, call, thing)
            for call in OF_TWO:
                self.assert_number(number, call, thing, thing)
                self.assert_number(number, call, ONE, thing)
            self.assert_number(number, worth_at, thing, thing)

    def test_the_first_ones_ahead_of_the_others(self):
        for call in OF_TWO:
            self.assert_number(1, call, ((1, 1), (0, 1)), None)
            self.assert_number(None, call, None, ((1, 1), (0, 1)))
            self.assert_number(1, call, ONE, ((1, 1), (0, 1)))

    def test_worths_at_no_fraction(self):
        for thing in NO_FRACTIONS + odd_things():
            self.assert_text(OutOfPlace, worth_at, poly(1, 2), thing)
            self.assert_text(OutOfPlace, worth_at, (), thing)

    def test_by_names_and_told_again(self):
        one, other = poly(1, 2, 3), poly(1, 2)
        self.assertIs(is_polynomial(thing=one), True)
        self.assertIsNone(need_polynomial(thing=one))
        self.assertEqual(degree_of(one=one), 2)
        self.assertEqual(sum_of(one=one, other=other), poly(2, 4, 3))
        self.assertEqual(product_of(one=one, other=other), poly(1, 4, 7, 6))
        self.assertEqual(divided_by(one=one, other=other), (poly(Fraction(1, 4), Fraction(3, 2)), poly(Fraction(3, 4))))
        self.assertEqual(worth_at(one=one, number=(2, 1)), (17, 1))
        self.assertEqual(out_row(one=poly(2, 1)), [(1, 2)])
        self.assertEqual(one_less(many=1), poly(1, -1))
        for call in OF_ONE + (is_polynomial, need_polynomial):
            self.assert_told_again(call, one)
        for call in OF_TWO:
            self.assert_told_again(call, one, other)
        self.assert_told_again(worth_at, one, (2, 3))
        self.assert_told_again(one_less, 4)
