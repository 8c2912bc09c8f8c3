"""Promise 6: carting."""

import random
import unittest

from knownholds.carts import carted
from knownholds.errors import NoThing
from knownholds.yard import Yard

GREAT = 10 ** 60 - 1


# Things are told as (holds, numbers); a hold is the number of a thing in the list, or None.
def yard_of(start, things):
    yard = Yard(start)
    addresses = [yard.make(len(holds), len(numbers)) for holds, numbers in things]
    for at, (holds, numbers) in zip(addresses, things):
        words = [0 if k is None else addresses[k] for k in holds] + list(numbers)
        for k, word in enumerate(words):
            yard.set_word(at + 1 + k, word)
    return yard, addresses


# The order and the new yard as promise 6 tells them, found from the old yard's told list alone.
def due(yard, roots):
    things = {}
    for at, holds, numbers in yard.told():
        things[at] = (holds, numbers)
    order = []
    waiting = list(roots)
    while waiting:
        hold = waiting.pop(0)
        if hold != 0 and hold not in order:
            order.append(hold)
            waiting.extend(things[hold][0])
    places = {0: 0}
    free = yard.free
    for old in order:
        places[old] = free
        free += 1 + len(things[old][0]) + len(things[old][1])
    told = [(places[old], tuple([places[hold] for hold in things[old][0]]), things[old][1]) for old in order]
    return [(old, places[old]) for old in order], told, free


class CartedTest(unittest.TestCase):
    def check(self, yard, roots):
        before = (yard.free, yard.told())
        roots_before = list(roots)
        answer = carted(yard, roots)
        self.assertIsInstance(answer, tuple)
        self.assertEqual(len(answer), 2)
        fresh, pairs = answer
        due_pairs, due_told, due_free = due(yard, roots)
        self.assertIsInstance(fresh, Yard)
        self.assertIsNot(fresh, yard)
        self.assertIsInstance(pairs, list)
        self.assertTrue(all([isinstance(pair, tuple) for pair in pairs]))
        self.assertEqual(pairs, due_pairs)
        self.assertEqual(fresh.told(), due_told)
        self.assertEqual(fresh.free, due_free)
        self.assertEqual((yard.free, yard.told()), before)
        self.assertEqual(roots, roots_before)
        return fresh, pairs

    def refused(self, yard, roots):
        before = (yard.free, yard.told())
        roots_before = list(roots)
        with self.assertRaises(NoThing):
            carted(yard, roots)
        self.assertEqual((yard.free, yard.told()), before)
        self.assertEqual(roots, roots_before)


class OrderTest(CartedTest):
    def test_roots_in_their_order(self):
        yard, at = yard_of(1, [((), (5,)), ((), (6, 7)), ((), ())])
        fresh, pairs = self.check(yard, [at[2], at[0], at[1]])
        self.assertEqual(at, [1, 3, 6])
        self.assertEqual(pairs, [(6, 7), (1, 8), (3, 10)])
        self.assertEqual(fresh.told(), [(7, (), ()), (8, (), (5,)), (10, (), (6, 7))])
        self.assertEqual(fresh.free, 13)

    def test_all_roots_ahead_of_what_they_hold(self):
        things = [((2, 3), ()), ((4,), ()), ((), (1,)), ((), (2,)), ((), (3,))]
        yard, at = yard_of(1, things)
        fresh, pairs = self.check(yard, [at[0], at[1]])
        self.assertEqual([old for old, now in pairs], [at[0], at[1], at[2], at[3], at[4]])

    def test_hold_fields_by_the_order_laid_not_by_depth(self):
        things = [((1, 2), ()), ((3,), ()), ((4,), ()), ((5,), ()), ((), (4,)), ((), (5,))]
        yard, at = yard_of(1, things)
        fresh, pairs = self.check(yard, [at[0]])
        self.assertEqual([old for old, now in pairs], [at[0], at[1], at[2], at[3], at[4], at[5]])

    def test_field_by_field_against_the_addresses(self):
        things = [((3, None, 1, 2, 3), (8,)), ((), (1,)), ((), (2,)), ((0,), (3,))]
        yard, at = yard_of(20, things)
        fresh, pairs = self.check(yard, [at[0]])
        self.assertEqual([old for old, now in pairs], [at[0], at[3], at[1], at[2]])

    def test_roots_that_are_nothing_alike_or_none(self):
        yard, at = yard_of(1, [((1,), (5,)), ((), (6,))])
        self.check(yard, [])
        self.check(yard, [0])
        self.check(yard, [0, 0, 0])
        self.check(yard, [at[1], at[1]])
        self.check(yard, [0, at[1], 0, at[0], at[1], 0])
        fresh, pairs = self.check(yard, [at[0], at[0], at[1]])
        self.assertEqual(len(pairs), 2)

    def test_no_roots_give_a_yard_without_things(self):
        yard, at = yard_of(4, [((0,), (1,))])
        fresh, pairs = carted(yard, [])
        self.assertEqual(pairs, [])
        self.assertEqual(fresh.told(), [])
        self.assertEqual(fresh.free, yard.free)

    def test_a_yard_without_things(self):
        for start in [1, 50, GREAT]:
            fresh, pairs = self.check(Yard(start), [0])
            self.assertEqual(fresh.free, start)
            self.refused(Yard(start), [start])

    def test_a_root_that_another_root_holds_stays_at_its_turn(self):
        yard, at = yard_of(1, [((1, 2), ()), ((), (1,)), ((), (2,))])
        fresh, pairs = self.check(yard, [at[0], at[2]])
        self.assertEqual([old for old, now in pairs], [at[0], at[2], at[1]])


class RingsTest(CartedTest):
    def test_a_thing_that_holds_itself(self):
        yard, at = yard_of(1, [((0, 0), (9,))])
        fresh, pairs = self.check(yard, [at[0]])
        self.assertEqual(fresh.told(), [(5, (5, 5), (9,))])
        self.assertEqual(pairs, [(1, 5)])

    def test_rings(self):
        for many in range(1, 12):
            yard, at = yard_of(1, [(((k + 1) % many,), (k,)) for k in range(many)])
            for first in range(many):
                fresh, pairs = self.check(yard, [at[first]])
                self.assertEqual([old for old, now in pairs], at[first:] + at[:first])

    def test_two_rings_that_meet(self):
        things = [((1, 2), ()), ((0, 3), ()), ((3, 0), ()), ((3, None), (-7,))]
        yard, at = yard_of(3, things)
        for root in at:
            self.check(yard, [root])

    def test_what_nothing_reaches_is_let_go(self):
        things = [((), (1,)), ((0, 2), (2,)), ((1,), (3,)), ((), (4,))]
        yard, at = yard_of(1, things)
        fresh, pairs = self.check(yard, [at[3], at[0]])
        self.assertEqual([old for old, now in pairs], [at[3], at[0]])
        self.assertEqual(len(fresh.told()), 2)


class PlacesTest(CartedTest):
    def test_the_new_start_is_the_old_free_address(self):
        for start in [1, 2, 99, 10 ** 30, GREAT]:
            yard, at = yard_of(start, [((1,), (1, 2)), ((), ()), ((0, 1), ())])
            fresh, pairs = self.check(yard, [at[2]])
            self.assertEqual(pairs[0][1], yard.free)
            places = [now for old, now in pairs]
            self.assertEqual(places, [yard.free, yard.free + 3, yard.free + 7])
            self.assertEqual(fresh.free, yard.free + 8)
            for spot in range(start, yard.free):
                self.assertFalse(fresh.is_thing(spot))

    def test_numbers_stay_though_they_look_like_holds(self):
        yard, at = yard_of(1, [((1,), (1, 4, 0, -1, GREAT, -GREAT)), ((), (1, 9))])
        fresh, pairs = self.check(yard, [at[0]])
        self.assertEqual([numbers for place, holds, numbers in fresh.told()],
                         [(1, 4, 0, -1, GREAT, -GREAT), (1, 9)])

    def test_a_number_holds_no_thing(self):
        yard, at = yard_of(1, [((), (1,)), ((), (3, 1))])
        yard.set_word(at[1] + 1, at[0])
        fresh, pairs = self.check(yard, [at[1]])
        self.assertEqual(len(pairs), 1)

    def test_every_size(self):
        yard = Yard(7)
        roots = [yard.make(h, m) for h in range(10) for m in range(10)]
        for at in roots:
            h, m = yard.size_of(at)
            for k in range(h):
                yard.set_word(at + 1 + k, roots[(at + k) % 100])
            for k in range(m):
                yard.set_word(at + 1 + h + k, at * 10 + k)
        fresh, pairs = self.check(yard, roots[::-1])
        for old, now in pairs:
            self.assertEqual(fresh.size_of(now), yard.size_of(old))
            self.assertEqual(fresh.word(now), yard.word(old))

    def test_a_yard_carted_again_and_again(self):
        yard, at = yard_of(5, [((1, 2), (1,)), ((0,), (2,)), ((None, 1), (3,)), ((), (4,))])
        roots = [at[2], at[3]]
        for turn in range(6):
            fresh, pairs = self.check(yard, roots)
            places = dict(pairs)
            yard, roots = fresh, [places[root] for root in roots][::-1]

    def test_a_yard_that_grew_behind_its_carting(self):
        yard, at = yard_of(1, [((None, 0), (5,))])
        fresh, pairs = self.check(yard, [at[0]])
        new = fresh.make(1, 0)
        fresh.set_word(pairs[0][1] + 1, new)
        self.check(fresh, [pairs[0][1]])
        self.assertEqual(yard.told(), [(1, (0, 1), (5,))])

    def test_the_new_yard_is_apart_from_the_old(self):
        yard, at = yard_of(1, [((None,), (5,))])
        fresh, pairs = carted(yard, [1])
        again, again_pairs = carted(yard, [1])
        self.assertIsNot(pairs, again_pairs)
        self.assertIsNot(fresh, again)
        fresh.set_word(pairs[0][1] + 2, 77)
        pairs.append((9, 9))
        self.assertEqual(yard.told(), [(1, (0,), (5,))])
        self.assertEqual(again.told(), [(4, (0,), (5,))])
        self.assertEqual(again_pairs, [(1, 4)])
        yard.set_word(3, 6)
        self.assertEqual(again.told(), [(4, (0,), (5,))])
        self.assertEqual(fresh.told(), [(4, (0,), (77,))])


class RefusalTest(CartedTest):
    def bad_holds(self, yard, at):
        spots = [spot for spot in range(at[0], yard.free) if spot not in at]
        return spots + [at[0] - 2, -1, -at[0], yard.free, yard.free + 1, yard.free + 70, GREAT]

    def test_bad_roots(self):
        yard, at = yard_of(3, [((1,), (5, 6)), ((0, None), (7,))])
        for bad in self.bad_holds(yard, at):
            for roots in [[bad], [at[0], bad], [bad, at[0]], [0, at[1], bad, 0]]:
                with self.subTest(roots=roots):
                    self.refused(yard, roots)

    def test_bad_hold_fields_that_are_met(self):
        for k in range(3):
            yard, at = yard_of(3, [((1,), ()), ((2, None, 0), ()), ((None,) * 3, (7,))])
            spot = at[2] + 1 + k
            for bad in self.bad_holds(yard, at):
                yard.set_word(spot, bad)
                with self.subTest(k=k, bad=bad):
                    self.refused(yard, [at[0]])
                    self.refused(yard, [at[2]])

    def test_bad_hold_fields_that_are_not_met(self):
        yard, at = yard_of(3, [((1,), ()), ((), (4,)), ((None, 0), (7,)), ((2,), ())])
        for bad in self.bad_holds(yard, at):
            yard.set_word(at[2] + 1, bad)
            self.check(yard, [at[0]])
            self.check(yard, [])
            self.refused(yard, [at[3]])

    def test_bad_words_in_number_fields_are_let_by(self):
        yard, at = yard_of(3, [((1,), (-1, GREAT, 4)), ((), (5,))])
        self.check(yard, [at[0]])

    def test_an_old_hold_is_none_in_the_new_yard(self):
        yard, at = yard_of(1, [((), (5,))])
        fresh, pairs = self.check(yard, [at[0]])
        self.refused(fresh, [at[0]])


class ManyTest(CartedTest):
    def test_a_chain_of_four_hundred(self):
        things = [((k + 1,), (k,)) for k in range(399)] + [((None,), (399,))]
        yard, at = yard_of(1, things)
        self.check(yard, [at[0]])
        self.check(yard, at)
        self.check(yard, at[::-1])

    def test_yards_of_all_sorts(self):
        chance = random.Random(20261116)
        for turn in range(300):
            many = chance.randrange(1, 14)
            things = []
            for k in range(many):
                holds = [chance.choice([None] + list(range(many))) for j in range(chance.randrange(5))]
                numbers = [chance.randrange(-3, 60) for j in range(chance.randrange(4))]
                things.append((holds, numbers))
            yard, at = yard_of(chance.choice([1, 2, 31, 10 ** 20]), things)
            roots = [chance.choice([0] + at) for k in range(chance.randrange(5))]
            self.check(yard, roots)
