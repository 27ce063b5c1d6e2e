"""Which rows are sums of others, and how many times each."""

import random
import unittest
from fractions import Fraction

from evenwheels.spans import keep_new, times_to_make, times_to_pair, unseen, whole_rows
from tests.support import pair_of, plain_echelon


def random_rows(chance, many, width):
    rows = [[Fraction(chance.randint(-4, 4), chance.randint(1, 5)) for _ in range(width)] for _ in range(many)]
    for at in range(1, many):
        if chance.random() < 0.4:
            by = [Fraction(chance.randint(-3, 3), 2) for _ in range(at)]
            rows[at] = [sum(x * row[place] for x, row in zip(by, rows)) for place in range(width)]
    return rows


def paired(one, other):
    return sum(worth * beside for worth, beside in zip(one, other))


def pairs(row):
    return [pair_of(Fraction(worth)) for worth in row]


class Spans(unittest.TestCase):
    def test_whole_rows(self):
        told = whole_rows([[(1, 2), (0, 1)], [(-5, 3), (3, 4)]])
        self.assertEqual(told, ([[6, 0], [-20, 9]], 12))
        self.assertEqual(whole_rows([[(3, 1)]]), ([[3]], 1))
        self.assertEqual(whole_rows([]), ([], 1))

    def test_keep_new(self):
        chance = random.Random(140)
        for _ in range(60):
            rows = random_rows(chance, chance.randint(1, 9), chance.randint(1, 7))
            kept = []
            told = [keep_new(kept, whole_rows([pairs(row)])[0][0]) for row in rows]
            self.assertEqual(told, plain_echelon(rows)[0])
            self.assertEqual(len(kept), sum(told))
        self.assertIs(keep_new([], [0, 0]), False)

    def test_times_to_pair_and_to_make(self):
        chance = random.Random(141)
        for _ in range(60):
            rows = random_rows(chance, chance.randint(1, 6), 7)
            rows = [row for row, new in zip(rows, plain_echelon(rows)[0]) if new]
            by = [Fraction(chance.randint(-9, 9), chance.randint(1, 9)) for _ in rows]
            told = [sum(x * row[place] for x, row in zip(by, rows)) for place in range(7)]
            self.assertEqual(times_to_make([pairs(row) for row in rows], pairs(told)), pairs(by))
            goals = [paired(row, told) for row in rows]
            self.assertEqual(times_to_pair([pairs(row) for row in rows], pairs(goals)), pairs(by))

    def test_by_hand(self):
        rows = [[(1, 2), (1, 2), (0, 1)], [(0, 1), (1, 3), (0, 1)]]
        self.assertEqual(times_to_make(rows, [(1, 1), (0, 1), (0, 1)]), [(2, 1), (-3, 1)])
        self.assertEqual(times_to_pair(rows, [(1, 2), (0, 1)]), [(2, 1), (-3, 1)])

    def test_unseen(self):
        self.assertEqual(unseen([], 2), [[(1, 1), (0, 1)], [(0, 1), (1, 1)]])
        self.assertEqual(unseen([[(0, 1), (0, 1)], [(1, 2), (1, 3)]], 2), [[(1, 1), (-3, 2)]])
        self.assertEqual(unseen([[(1, 1), (0, 1)], [(1, 1), (1, 1)]], 2), [])
        chance = random.Random(142)
        for _ in range(60):
            width = chance.randint(1, 7)
            rows = random_rows(chance, chance.randint(1, 6), width)
            told = [[Fraction(*worth) for worth in row] for row in unseen([pairs(row) for row in rows], width)]
            self.assertEqual(len(told), width - sum(plain_echelon(rows)[0]))
            self.assertTrue(all(paired(one, row) == 0 for one in told for row in rows))
            firsts = [next(at for at, worth in enumerate(one) if worth) for one in told]
            self.assertEqual(firsts, sorted(firsts))
            self.assertEqual([[one[first] for first in firsts] for one in told],
                             [[int(first == mine) for first in firsts] for mine in firsts])
