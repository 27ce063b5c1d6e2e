"""Machines, loads and odd things that the tests share, and a plain second telling of a beat."""

import random
import unittest
from fractions import Fraction

from evenwheels.errors import BadMachine
from evenwheels.loads import one_at, readings
from evenwheels.machines import machine_of, spots


class Same:
    """Says that it is the same as anything."""

    def __eq__(self, other):
        return True

    def __hash__(self):
        return 1


def deep(kind, many=100000):
    thing = kind()
    for _ in range(many):
        thing = kind([thing])
    return thing


def within_itself():
    thing = []
    thing.append(thing)
    return thing


DEEP_TUPLE = deep(tuple)
DEEP_LIST = deep(list)


def odd_things():
    """Things that are no machine, load, spot, number, fraction or paper, whatever is asked for."""
    return [
        None, True, False, 0.0, 1.0, 1.5, float("nan"), "", "x", "0", b"", b"xy", [], [0], {}, {0: 0}, set(), {1},
        frozenset(), object(), Same(), len, int, tuple, range(2), 1j, Fraction(1, 2), ValueError("x"),
        (None,), (True,), (None, None), (True, False), (1.0, 0), ("0", "1"), ((), None), ([], []), (0, 0, 0, None),
        DEEP_TUPLE, DEEP_LIST, within_itself(), (within_itself(), within_itself()), (DEEP_TUPLE, DEEP_TUPLE),
    ]


# Two of one wheel with a touch, two of one cell, ways that part and come together, lots of several.
ONE_CELL = ((1,), ())
LONELY = ((5,), ())
HALF_ROUND = ((6,), (((0, 1), (0, 4)),))
UNEVEN_ROUND = ((7,), (((0, 0), (0, 2)),))
TWO_WHEELS = ((2, 3), (((0, 0), (1, 0)),))
TWICE = ((4, 6), (((0, 0), (1, 1)), ((0, 2), (1, 3))))
ONE_CELL_TOUCHES = ((1, 4), (((0, 0), (1, 2)),))
SEVERAL_LOTS = ((3, 4, 6, 2, 8), (((0, 1), (2, 2)), ((1, 0), (4, 1)), ((1, 2), (4, 7))))
MOST_WHEELS_ALL = ((1,) * 15 + (15,), tuple(((w, 0), (15, w)) for w in range(8)))
MOST_CELLS_ALONE = ((30,), tuple(((0, p), (0, p + 8)) for p in range(8)))
CHAIN = ((6, 9, 12), (((0, 0), (1, 1)), ((0, 3), (2, 5)), ((1, 4), (2, 0)), ((1, 7), (2, 3))))
# A lot whose second wheel is told by its third one alone, and one told all the way from its last.
WINDING = ((4, 4, 8), (((0, 1), (2, 2)), ((1, 3), (2, 5))))
BACKWARD = ((6, 3, 6, 3), (((0, 1), (3, 2)), ((1, 2), (2, 0)), ((2, 2), (3, 0))))

# Eight touches between wheels of unlike counts; two wheels that meet again as at first only behind 221 beats.
EIGHT = ((3, 5, 7, 15), (((0, 0), (1, 2)), ((0, 1), (3, 4)), ((1, 0), (2, 3)), ((1, 4), (3, 14)), ((2, 0), (2, 5)),
                         ((2, 6), (3, 1)), ((3, 2), (3, 9)), ((3, 6), (3, 12))))
LATEST = ((13, 17), (((0, 4), (1, 11)),))
# At beat 1 both touches read the mean of all.
NEIGHBOURS = ((4,), (((0, 0), (0, 1)), ((0, 2), (0, 3))))

MACHINES = [
    ONE_CELL, LONELY, HALF_ROUND, UNEVEN_ROUND, TWO_WHEELS, TWICE, ONE_CELL_TOUCHES, SEVERAL_LOTS,
    MOST_WHEELS_ALL, MOST_CELLS_ALONE, CHAIN, WINDING, BACKWARD,
]


GREAT = [MOST_CELLS_ALONE, MOST_WHEELS_ALL, CHAIN, EIGHT, LATEST]


def random_machine(chance):
    counts = [chance.randint(1, 30)]
    while len(counts) < 16 and sum(counts) < 30 and chance.random() < 0.75:
        counts.append(chance.randint(1, min(12, 30 - sum(counts))))
    ends = [(wheel, place) for wheel, count in enumerate(counts) for place in range(count)]
    chance.shuffle(ends)
    many = chance.randint(0, min(8, len(ends) // 2))
    return machine_of(tuple(counts), [(ends[2 * k], ends[2 * k + 1]) for k in range(many)])


def even_machine(chance):
    """One whose counts have divisors in common, so that G is often above 1."""
    step = chance.choice([2, 3, 4])
    counts = [step * chance.randint(1, 3) for _ in range(chance.randint(1, 3))]
    while sum(counts) > 30:
        counts.pop()
    ends = [(wheel, place) for wheel, count in enumerate(counts) for place in range(count)]
    chance.shuffle(ends)
    pairs = []
    for one in ends:
        for other in ends:
            free = all(end not in pair for pair in pairs for end in (one, other))
            if one < other and free and len(pairs) < 8 and (one[1] - other[1]) % step == 0 and chance.random() < 0.3:
                pairs.append((one, other))
    return machine_of(tuple(counts), pairs)


def some_machines():
    chance = random.Random(20)
    return MACHINES + [random_machine(chance) for _ in range(40)] + [even_machine(chance) for _ in range(40)]


def random_load(machine, chance):
    def some():
        worth = Fraction(chance.randint(-9, 9), chance.randint(1, 9))
        return (worth.numerator, worth.denominator)
    return tuple(tuple(some() for _ in range(count)) for count in machine[0])


def whole_load(*rows):
    """A load of whole numbers, told row by row."""
    return tuple(tuple((worth, 1) for worth in row) for row in rows)


def pair_of(worth):
    return (worth.numerator, worth.denominator)


def holds_of(load):
    return {(w, p): Fraction(*worth) for w, row in enumerate(load) for p, worth in enumerate(row)}


def load_of(machine, holds):
    return tuple(tuple(pair_of(holds[w, p]) for p in range(count)) for w, count in enumerate(machine[0]))


def plain_read(machine, holds):
    return [(holds[one] + holds[other]) / 2 for one, other in machine[1]]


def plain_beat(machine, holds):
    shared = dict(holds)
    for (one, other), reading in zip(machine[1], plain_read(machine, holds)):
        shared[one] = shared[other] = reading
    return {(w, (p - 1) % machine[0][w]): worth for (w, p), worth in shared.items()}


def plain_classes(machine):
    """All classes, each a set of spots: what meets at any beat, if all only rolls, is of one."""
    found = {(w, p): {(w, p)} for w, count in enumerate(machine[0]) for p in range(count)}
    for beats in range(221):
        for (w, p), (v, q) in machine[1]:
            one, other = (w, (p + beats) % machine[0][w]), (v, (q + beats) % machine[0][v])
            if found[one] is not found[other]:
                both = found[one] | found[other]
                for spot in both:
                    found[spot] = both
    return [members for spot, members in sorted(found.items()) if spot == min(members)]


def plain_echelon(rows):
    """A plain elimination by fractions: for each row whether it is no sum of those ahead, and what is left of all."""
    kept, new = [], []
    for row in rows:
        for place, ahead in kept:
            by = row[place]
            if by:
                row = [worth - by * beside if beside else worth for worth, beside in zip(row, ahead)]
        place = next((at for at, worth in enumerate(row) if worth), None)
        new.append(place is not None)
        if place is not None:
            kept.append((place, [worth / row[place] for worth in row]))
    return new, kept


def plain_is_sum(kept, row):
    """Whether a row is a sum of what plain_echelon kept."""
    for place, ahead in kept:
        if row[place]:
            row = [worth - row[place] * beside for worth, beside in zip(row, ahead)]
    return not any(row)


def plain_rank(rows):
    return sum(plain_echelon(rows)[0])


def plain_silent(rows, many):
    """Rows of so many that, paired with all of these, make nought: as many as there are unlike ones."""
    _, kept = plain_echelon(rows)
    found = []
    for free in sorted(set(range(many)) - {place for place, _ in kept}):
        told = [Fraction(int(at == free)) for at in range(many)]
        for place, row in reversed(kept):
            told[place] -= sum(worth * more for worth, more in zip(row, told))
        found.append(told)
    return found


def plain_rows(machine, window, beats):
    """What one at each spot makes be read, look by look."""
    told = [readings(machine, one_at(machine, spot), beats) for spot in spots(machine)]
    return [[Fraction(*each[at][touch]) for each in told] for at in range(beats) for touch in window]


def some_window(machine, chance):
    many = len(machine[1])
    return tuple(sorted(chance.sample(range(many), chance.randint(1, many))))


def some_names(machine, chance):
    numbers = list(range(len(machine[0])))
    chance.shuffle(numbers)
    return tuple((number, chance.randrange(count)) for number, count in zip(numbers, machine[0]))


def flat_of(load):
    return [Fraction(*worth) for row in load for worth in row]


def fraction_rows(rows):
    return tuple(tuple(pair_of(Fraction(worth)) for worth in row) for row in rows)


class WheelTest(unittest.TestCase):
    def assert_refused(self, error, fields, call, *args, **named):
        """The error is of just this class; fields are its own attributes, None of one made of a text."""
        with self.assertRaises(error) as caught:
            call(*args, **named)
        self.assertIs(type(caught.exception), error)
        if fields is not None:
            self.assertEqual(vars(caught.exception), fields)
            for name, field in fields.items():
                self.assertIs(type(getattr(caught.exception, name)), type(field))

    def assert_place(self, error, place, call, *args, **named):
        self.assert_refused(error, {"place": place}, call, *args, **named)

    def assert_text(self, error, call, *args, **named):
        self.assert_refused(error, {}, call, *args, **named)

    def assert_no_machine_ahead(self, call, *more):
        """What is no machine is refused ahead of all else that is handed in, by its place."""
        for thing in odd_things():
            with self.assertRaises(BadMachine):
                call(thing, *more)
        self.assert_place(BadMachine, None, call, [(2,), ()], *more)
        self.assert_place(BadMachine, "counts", call, ((), ()), *more)
        self.assert_place(BadMachine, "counts", call, ((0,), ()), *more)
        self.assert_place(BadMachine, "touches", call, ((2, 3), []), *more)
        self.assert_place(BadMachine, 0, call, ((2,), (((0, 0), (0, 0)),)), *more)
        self.assert_place(BadMachine, 1, call, ((4,), (((0, 0), (0, 1)), ((0, 1), (0, 2)))), *more)

    def assert_fractions(self, thing):
        """All that stands in tuples or lists is fractions in lowest terms, of ints."""
        if isinstance(thing, list) or not thing or isinstance(thing[0], tuple):
            for part in thing:
                self.assert_fractions(part)
            return
        self.assertIs(type(thing), tuple)
        self.assertEqual([type(part) for part in thing], [int, int])
        self.assertEqual(thing, pair_of(Fraction(*thing)))

    def assert_told_again(self, call, *args):
        """Told twice it is the same, and not one list or dict that two askers share."""
        kept = repr(args)
        first = call(*args)
        told = repr(first)
        if isinstance(first, list):
            first.append("spoilt")
        self.assertEqual(repr(call(*args)), told)
        self.assertEqual(repr(args), kept)
