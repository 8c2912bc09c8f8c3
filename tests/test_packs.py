"""Promise 25: a table packed into a whole number, and unpacked."""

import copy
import random
import unittest

from knownholds.errors import NoTable
from knownholds.faults import fit
from knownholds.packs import pack, unpack
from makers import any_table

PROGRAM = [("", "n", 16, [("rest",), ("jump", 0)])]

# (holds, halves, the number), reckoned by hand.
PACKED = [
    ([], [], 0),
    ([0], [], 1),
    ([23], [], 8388608),
    ([0, 1, 5], [], 35),
    (list(range(24)), [], 16777215),
    ([0], [(1, 0)], 1 + 33 * 16777216),
    ([1], [(0, 1)], 2 + 2 * 16777216),
    ([1], [(2, 1)], 2 + 66 * 16777216),
    ([22], [(23, 22)], 4194304 + 759 * 16777216),
    ([8, 23], [(0, 23), (9, 8)], 8388864 + (24 + 297 * 1024) * 16777216),
    ([0], [(1, 0), (2, 0), (23, 0)], 1 + (33 + 65 * 1024 + 737 * 1048576) * 16777216),
    ([7], [(0, 7), (3, 7)], 128 + (8 + 104 * 1024) * 16777216),
]


def number_of(holds, digits):
    return sum([1 << p for p in holds]) + sum([digit * 1024 ** k for k, digit in enumerate(digits)]) * 2 ** 24


def digit_of(s, b):
    return s * 32 + b + 1


class PackTest(unittest.TestCase):
    def check(self, holds, halves, number):
        before = copy.deepcopy((holds, halves))
        told = pack(holds, halves)
        self.assertIs(type(told), int)
        self.assertEqual(told, number)
        self.assertEqual((holds, halves), before)
        lists = unpack(number)
        self.assertIs(type(lists), tuple)
        self.assertEqual([type(one) for one in lists], [list, list])
        self.assertEqual(lists, (holds, halves))
        self.assertTrue(all([type(half) is tuple and len(half) == 2 for half in lists[1]]))
        self.assertIsNot(lists[0], lists[1])
        lists[0].append(99)
        lists[1].append(99)
        self.assertEqual(unpack(number), (holds, halves))

    def test_by_hand(self):
        for holds, halves, number in PACKED:
            with self.subTest(holds=holds, halves=halves):
                self.check(holds, halves, number)

    def test_each_single_hold(self):
        for p in range(24):
            self.check([p], [], 2 ** p)

    def test_each_single_half(self):
        for s in range(24):
            for b in range(24):
                if s != b:
                    self.check([b], [(s, b)], number_of([b], [digit_of(s, b)]))

    def test_many_halves(self):
        for b in range(24):
            spots = [s for s in range(24) if s != b]
            self.check([b], [(s, b) for s in spots], number_of([b], [digit_of(s, b) for s in spots]))
        halves = [(s, 12 + s) for s in range(12)]
        self.check(list(range(12, 24)), halves, number_of(range(12, 24), [digit_of(s, b) for s, b in halves]))

    def test_at_random(self):
        chance = random.Random(25)
        for turn in range(500):
            holds, halves = any_table(chance, 0, 24)
            halves = [(s, b) for s, b in halves if s not in holds]
            self.assertTrue(fit(PROGRAM, [(0, 0, holds, halves)]))
            self.check(holds, halves, number_of(holds, [digit_of(s, b) for s, b in halves]))


class UnpackTest(unittest.TestCase):
    def refused(self, number):
        with self.assertRaises(NoTable, msg=number):
            unpack(number)

    def test_below_0(self):
        for number in [-1, -2, -16777216, -PACKED[5][2], -(10 ** 60), -(10 ** 300 - 1)]:
            self.refused(number)

    def test_halves_that_do_not_rise(self):
        self.refused(number_of([0], [digit_of(2, 0), digit_of(1, 0)]))
        self.refused(number_of([0, 1], [digit_of(3, 0), digit_of(2, 1)]))
        self.refused(number_of([0], [digit_of(1, 0), digit_of(3, 0), digit_of(2, 0)]))
        self.assertEqual(unpack(number_of([0, 1], [digit_of(2, 1), digit_of(3, 0)])), ([0, 1], [(2, 1), (3, 0)]))

    def test_twice_the_same_s(self):
        self.refused(number_of([0], [digit_of(1, 0), digit_of(1, 0)]))
        self.refused(number_of([0, 1], [digit_of(2, 0), digit_of(2, 1)]))
        self.refused(number_of([0, 1], [digit_of(2, 1), digit_of(2, 0)]))

    def test_an_s_among_the_holds(self):
        self.refused(number_of([0, 1], [digit_of(1, 0)]))
        self.refused(number_of([0], [digit_of(0, 0)]))
        self.refused(number_of([0, 23], [digit_of(1, 0), digit_of(23, 0)]))

    def test_a_b_that_is_not_among_the_holds(self):
        self.refused(number_of([], [digit_of(1, 0)]))
        self.refused(number_of([1], [digit_of(2, 0)]))
        self.refused(number_of([0], [digit_of(1, 0), digit_of(2, 1)]))
        self.refused(number_of([], [1]))

    def test_places_from_24_on(self):
        every = list(range(24))
        for p in range(24, 32):
            self.refused(number_of([0], [digit_of(p, 0)]))
            self.refused(number_of([0], [digit_of(1, 0), digit_of(p, 0)]))
            self.refused(number_of([0], [digit_of(1, p)]))
            self.refused(number_of(every[1:], [digit_of(0, p)]))
            self.refused(number_of(every, [digit_of(p, 0)]))
            self.refused(number_of(every[1:], [digit_of(p, p)]))

    def test_a_digit_0_below_another_one(self):
        self.refused(number_of([0], [0, digit_of(1, 0)]))
        self.refused(number_of([0], [digit_of(1, 0), 0, digit_of(2, 0)]))
        self.refused(number_of([0], [0, 0, 0, digit_of(1, 0)]))
        self.assertEqual(unpack(number_of([0], [digit_of(1, 0), 0, 0])), ([0], [(1, 0)]))

    def test_a_digit_beyond_the_greatest(self):
        for digit in range(digit_of(23, 23) + 1, 1024):
            for holds in [[], [0], list(range(23)), list(range(24))]:
                self.refused(number_of(holds, [digit]))

    def test_all_numbers_of_one_digit(self):
        for holds in [[], [0], [5, 23], list(range(0, 24, 2))]:
            for digit in range(1024):
                number = number_of(holds, [digit])
                s, b = divmod(digit - 1, 32)
                if digit == 0:
                    self.assertEqual(unpack(number), (holds, []))
                elif s < 24 and s not in holds and b in holds:
                    self.assertEqual(unpack(number), (holds, [(s, b)]))
                else:
                    self.refused(number)

    def test_numbers_of_three_hundred_figures(self):
        for number in [10 ** 299, 10 ** 300 - 1, int("123456789" * 33 + "123"), 2 ** 996, 2 ** 990 - 1]:
            self.refused(number)
        # Digit by digit rising as far as there are places, and some more.
        self.refused(number_of([0], [digit_of(s, 0) for s in range(1, 32)]))
        self.refused(number_of([0], [digit_of(1 + s % 23, 0) for s in range(97)]))

    def test_what_is_not_refused_is_packed_of_what_it_is_unpacked_to(self):
        chance = random.Random(251)
        good = 0
        for turn in range(4000):
            holds = [p for p in range(24) if chance.random() < 0.5]
            spots = sorted([chance.randrange(26) for k in range(chance.randrange(4))])
            digits = [digit_of(s, chance.choice(holds + [24])) for s in spots]
            number = number_of(holds, digits + [0] * (turn % 2))
            try:
                lists = unpack(number)
            except NoTable:
                continue
            good += 1
            self.assertEqual(pack(lists[0], lists[1]), number)
            self.assertTrue(fit(PROGRAM, [(0, 0, lists[0], lists[1])]))
        self.assertGreater(good, 500)
