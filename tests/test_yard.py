"""Promises 4 and 5: heads, and the yard's things and words."""

import unittest

from knownholds.errors import NoSpot, NoThing
from knownholds.yard import Yard, head, head_parts

GREAT = 10 ** 60 - 1
STARTS = [1, 2, 7, 1000, 10 ** 18, 2 ** 63, GREAT]
SIZES = [(0, 0), (2, 1), (9, 9), (0, 3), (4, 0), (0, 0), (1, 1), (9, 0), (0, 9)]


def filled(start, sizes):
    yard = Yard(start)
    return yard, [yard.make(h, m) for h, m in sizes]


def whole(value):
    return isinstance(value, int) and not isinstance(value, bool)


class HeadTest(unittest.TestCase):
    def test_every_head_and_its_parts(self):
        for h in range(10):
            for m in range(10):
                with self.subTest(h=h, m=m):
                    word = head(h, m)
                    self.assertTrue(whole(word))
                    self.assertEqual(word, 16 * h + m)
                    self.assertEqual(head_parts(word), (h, m))
                    self.assertIsInstance(head_parts(word), tuple)

    def test_some_heads_written_out(self):
        self.assertEqual(head(0, 0), 0)
        self.assertEqual(head(0, 9), 9)
        self.assertEqual(head(1, 0), 16)
        self.assertEqual(head(2, 1), 33)
        self.assertEqual(head(9, 9), 153)


class MakeTest(unittest.TestCase):
    def test_a_new_yard_is_free_at_its_start(self):
        for start in STARTS:
            yard = Yard(start)
            self.assertEqual(yard.free, start)
            self.assertEqual(yard.told(), [])

    def test_things_lie_one_behind_the_other(self):
        for start in STARTS:
            yard = Yard(start)
            due = start
            for h, m in SIZES:
                with self.subTest(start=start, h=h, m=m):
                    self.assertEqual(yard.make(h, m), due)
                    due += 1 + h + m
                    self.assertEqual(yard.free, due)

    def test_each_size_makes_its_words(self):
        for h in range(10):
            for m in range(10):
                with self.subTest(h=h, m=m):
                    yard = Yard(5)
                    self.assertEqual(yard.make(h, m), 5)
                    self.assertEqual(yard.free, 6 + h + m)
                    self.assertEqual([yard.word(spot) for spot in range(5, yard.free)],
                                     [16 * h + m] + [0] * (h + m))
                    self.assertEqual(yard.told(), [(5, (0,) * h, (0,) * m)])

    def test_two_yards_are_apart(self):
        one = Yard(1)
        other = Yard(1)
        at = one.make(1, 1)
        self.assertEqual(other.free, 1)
        self.assertFalse(other.is_thing(at))
        self.assertEqual(other.told(), [])
        self.assertEqual(other.make(0, 2), 1)
        one.set_word(at + 1, 44)
        self.assertEqual(other.told(), [(1, (), (0, 0))])
        self.assertEqual(one.told(), [(1, (44,), (0,))])


class WordTest(unittest.TestCase):
    def test_every_word_of_a_new_yard(self):
        for start in STARTS:
            yard, addresses = filled(start, SIZES)
            due = []
            for h, m in SIZES:
                due = due + [16 * h + m] + [0] * (h + m)
            told = [yard.word(start + k) for k in range(len(due))]
            self.assertEqual(told, due)
            self.assertTrue(all([whole(word) for word in told]))

    def test_no_word_outside_the_things(self):
        for start in STARTS:
            yard, addresses = filled(start, SIZES)
            for spot in [start - 1, start - 2, -start, -1, 0, yard.free, yard.free + 1, yard.free + 500]:
                with self.subTest(start=start, spot=spot):
                    with self.assertRaises(NoSpot):
                        yard.word(spot)

    def test_no_word_in_a_yard_without_things(self):
        yard = Yard(3)
        for spot in range(-2, 8):
            with self.assertRaises(NoSpot):
                yard.word(spot)
            with self.assertRaises(NoSpot):
                yard.set_word(spot, 1)
        self.assertEqual(yard.free, 3)
        self.assertEqual(yard.told(), [])

    def test_a_word_laid_in_each_field_is_told_again(self):
        for start in STARTS:
            yard, addresses = filled(start, SIZES)
            words = {}
            for spot in range(start, yard.free):
                words[spot] = yard.word(spot)
            for spot in range(start, yard.free):
                if spot not in addresses:
                    for word in [1, -1, -GREAT, GREAT, 0, 3 * (spot - start) - 40]:
                        self.assertIsNone(yard.set_word(spot, word))
                        self.assertEqual(yard.word(spot), word)
                        words[spot] = word
                    for other in range(start, yard.free):
                        self.assertEqual(yard.word(other), words[other])
            self.assertEqual(yard.told(), told_of(words, addresses, SIZES))

    def test_a_head_is_never_laid_anew(self):
        for start in STARTS:
            yard, addresses = filled(start, SIZES)
            before = (yard.free, yard.told())
            for (h, m), at in zip(SIZES, addresses):
                for word in [0, 5, 16 * h + m]:
                    with self.assertRaises(NoSpot):
                        yard.set_word(at, word)
                    self.assertEqual(yard.word(at), 16 * h + m)
                    self.assertEqual(yard.size_of(at), (h, m))
            self.assertEqual((yard.free, yard.told()), before)

    def test_nothing_is_laid_where_no_word_lies(self):
        for start in STARTS:
            yard, addresses = filled(start, SIZES)
            before = (yard.free, yard.told())
            for spot in [start - 1, 0, -1, yard.free, yard.free + 1, yard.free + 90]:
                with self.assertRaises(NoSpot):
                    yard.set_word(spot, 7)
                with self.assertRaises(NoSpot):
                    yard.word(spot)
            self.assertEqual((yard.free, yard.told()), before)
            self.assertEqual(yard.make(1, 1), before[0])
            self.assertEqual(yard.told()[-1], (before[0], (0,), (0,)))


class ThingTest(unittest.TestCase):
    def test_at_every_spot_whether_a_thing_begins(self):
        for start in STARTS:
            yard, addresses = filled(start, SIZES)
            sizes = dict(zip(addresses, SIZES))
            for spot in list(range(start - 3, yard.free + 4)) + [0, -1]:
                with self.subTest(start=start, spot=spot):
                    self.assertIs(yard.is_thing(spot), spot in sizes)
                    if spot in sizes:
                        self.assertEqual(yard.size_of(spot), sizes[spot])
                        self.assertIsInstance(yard.size_of(spot), tuple)
                    else:
                        with self.assertRaises(NoThing):
                            yard.size_of(spot)

    def test_a_field_that_looks_like_a_head_is_none(self):
        yard, addresses = filled(1, [(1, 2), (2, 1)])
        for spot in [2, 3, 4, 6, 7, 8]:
            yard.set_word(spot, head(1, 2))
            self.assertIs(yard.is_thing(spot), False)
            with self.assertRaises(NoThing):
                yard.size_of(spot)


class ToldTest(unittest.TestCase):
    def test_holds_and_numbers_stand_apart(self):
        yard, addresses = filled(10, [(2, 3), (0, 0), (1, 0)])
        for spot, word in zip(range(11, 16), [16, 10, -5, 6, 7]):
            yard.set_word(spot, word)
        yard.set_word(18, 99)
        self.assertEqual(yard.told(), [(10, (16, 10), (-5, 6, 7)), (16, (), ()), (17, (99,), ())])

    def test_kinds_of_what_is_told(self):
        yard, addresses = filled(1, SIZES)
        self.assertIsInstance(yard.told(), list)
        for thing in yard.told():
            self.assertIsInstance(thing, tuple)
            self.assertEqual(len(thing), 3)
            self.assertIsInstance(thing[1], tuple)
            self.assertIsInstance(thing[2], tuple)

    def test_the_told_list_is_the_askers_own(self):
        yard, addresses = filled(1, [(1, 1), (0, 2)])
        first = yard.told()
        second = yard.told()
        self.assertIsNot(first, second)
        first.append((9, (), ()))
        first[0] = None
        self.assertEqual(yard.told(), [(1, (0,), (0,)), (4, (), (0, 0))])
        yard.set_word(2, 4)
        yard.make(0, 0)
        self.assertEqual(second, [(1, (0,), (0,)), (4, (), (0, 0))])

    def test_rising_by_address_for_many_things(self):
        yard, addresses = filled(9, SIZES * 44)
        self.assertEqual([thing[0] for thing in yard.told()], addresses)
        self.assertEqual(addresses, sorted(addresses))


def told_of(words, addresses, sizes):
    told = []
    for at, (h, m) in zip(addresses, sizes):
        holds = tuple([words[at + 1 + k] for k in range(h)])
        numbers = tuple([words[at + 1 + h + k] for k in range(m)])
        told.append((at, holds, numbers))
    return told
