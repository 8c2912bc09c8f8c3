"""Promises 26 and 27: the carter comes to a hand, and carted runs; and 3 over them."""

import copy
import random
import unittest
from unittest import mock

from knownholds import carried as carried_file
from knownholds.carried import carried, cart_hand
from knownholds.faults import fault, fit
from knownholds.hand import Hand
from knownholds.kinds import kinds_of
from knownholds.runs import run
from knownholds.tables import least
from knownholds.yard import Yard
from makers import guided_program, known_tables, made_program, mended

GREAT = 10 ** 60 - 1

# Three frames: the things A, B of def 0, C of def 1, D of def 2, each with a spot of it somewhere.
THREE = [
    ("", "n", 4, [("make", 8, 1, 2), ("make", 9, 0, 1), ("hang", 8, 0, 9), ("into", 10, 8, 1), ("nil", 11),
                  ("call", 0, 1, (9,)), ("look", 1, 10, 8), ("none", 9, 8), ("none", 11, 9), ("back", 1)]),
    ("h", "n", 3, [("copy", 8, 0), ("make", 9, 0, 2), ("into", 10, 9, 0), ("call", 1, 2, (9, 8)), ("lay", 10, 9, 1),
                   ("none", 8, 6), ("back", 1)]),
    ("hh", "n", 2, [("copy", 8, 1), ("make", 2, 1, 1), ("into", 3, 2, 0), ("into", 9, 8, 0), ("copy", 4, 2), ("rest",),
                    ("look", 5, 3, 2), ("look", 6, 9, 8), ("same", 4, 2, 9), ("none", 0, 10), ("back", 5)]),
]
THREE_TABLES = [(0, 0, [], []), (0, 1, [8], []), (0, 5, [8, 9, 11], [(10, 8)]), (1, 1, [8], []),
                (1, 3, [8, 9], [(10, 9)]), (2, 1, [0, 8], []), (2, 5, [0, 2, 4, 8], [(3, 2), (9, 8)])]


def hand_at(program, inputs, start, f, at):
    hand = Hand(program, inputs, start)
    while (hand.f, hand.at) != (f, at):
        hand.go()
        assert hand.end is None
    return hand


class CartHandTest(unittest.TestCase):
    def check(self, hand, tables, boxes, pile, told, free, pairs):
        before = copy.deepcopy((tables, hand.program, hand.f, hand.at, hand.frames, hand.news))
        old = hand.yard
        there = (old.told(), old.free)
        answer = cart_hand(hand, tables)
        self.assertIs(type(answer), list)
        self.assertEqual(answer, pairs)
        self.assertTrue(all([type(pair) is tuple for pair in answer]))
        self.assertEqual(hand.boxes, boxes)
        self.assertEqual(hand.pile, pile)
        self.assertIs(type(hand.yard), Yard)
        self.assertIsNot(hand.yard, old)
        self.assertEqual((hand.yard.told(), hand.yard.free), (told, free))
        self.assertEqual((old.told(), old.free), there)
        self.assertEqual((tables, hand.program, hand.f, hand.at, hand.frames, hand.news), before)
        self.assertIsNone(hand.end)
        answer.append("more")

    def test_the_tables_are_the_least(self):
        self.assertEqual(least(THREE), THREE_TABLES)

    def test_three_frames(self):
        hand = hand_at(THREE, [], 1, 2, 5)
        self.assertEqual(hand.boxes, [7, 5, 10, 12, 10, -1, -1, -1])
        self.assertEqual(hand.pile, [1, 5, 4, 0, 5, 7, 8, 5, 6])
        self.check(hand, THREE_TABLES, [13, 5, 16, 18, 16, -1, -1, -1], [21, 19, 24, 0, 19, 13, 14, 19, 20],
                   [(13, (), (0, 0)), (16, (0,), (0,)), (19, (), (0,)), (21, (19,), (0, 0))], 25,
                   [(7, 13), (10, 16), (5, 19), (1, 21)])

    def test_twice_running(self):
        hand = hand_at(THREE, [], 1, 2, 5)
        cart_hand(hand, THREE_TABLES)
        self.check(hand, THREE_TABLES, [25, 5, 28, 30, 28, -1, -1, -1], [33, 31, 36, 0, 31, 25, 26, 31, 32],
                   [(25, (), (0, 0)), (28, (0,), (0,)), (31, (), (0,)), (33, (31,), (0, 0))], 37,
                   [(13, 25), (16, 28), (19, 31), (21, 33)])

    def test_three_frames_far_out(self):
        hand = hand_at(THREE, [], GREAT, 2, 5)
        far = GREAT + 12
        self.check(hand, THREE_TABLES,
                   [far, GREAT + 4, far + 3, far + 5, far + 3, -1, -1, -1],
                   [far + 8, far + 6, far + 11, 0, far + 6, far, far + 1, far + 6, far + 7],
                   [(far, (), (0, 0)), (far + 3, (0,), (0,)), (far + 6, (), (0,)), (far + 8, (far + 6,), (0, 0))],
                   far + 12, [(GREAT + 6, far), (GREAT + 9, far + 3), (GREAT + 4, far + 6), (GREAT, far + 8)])

    def test_at_a_make(self):
        hand = hand_at(THREE, [], 1, 2, 1)
        self.check(hand, THREE_TABLES, [10, 5, -1, -1, -1, -1, -1, -1], [15, 13, 18, 0, 13, 10, 11, 13, -1],
                   [(10, (), (0, 0)), (13, (), (0,)), (15, (13,), (0, 0))], 19, [(7, 10), (5, 13), (1, 15)])
        hand = hand_at(THREE, [], 1, 1, 1)
        self.check(hand, THREE_TABLES, [5] + [-1] * 7, [9, 7, 12, 0, 7, -1, -1],
                   [(7, (), (0,)), (9, (7,), (0, 0))], 13, [(5, 7), (1, 9)])
        hand = hand_at(THREE, [], 1, 0, 1)
        self.check(hand, THREE_TABLES, [-1] * 8, [5, -1, -1, -1], [(5, (0,), (0, 0))], 9, [(1, 5)])
        hand = hand_at(THREE, [], 1, 0, 0)
        self.check(hand, THREE_TABLES, [-1] * 8, [-1] * 4, [], 1, [])

    def test_tables_that_tell_more(self):
        more = [table for table in THREE_TABLES]
        more[5] = (2, 1, [0, 1, 8], [])
        more[6] = (2, 5, [0, 1, 2, 4, 8], [(3, 2), (9, 8)])
        self.assertIsNone(fault(THREE, more))
        hand = hand_at(THREE, [], 1, 2, 5)
        self.check(hand, more, [13, 16, 18, 20, 18, -1, -1, -1], [21, 16, 24, 0, 16, 13, 14, 16, 17],
                   [(13, (), (0, 0)), (16, (), (0,)), (18, (0,), (0,)), (21, (16,), (0, 0))], 25,
                   [(7, 13), (5, 16), (10, 18), (1, 21)])

    def test_nothing_is_told(self):
        program = [("n", "n", 2, [("make", 1, 1, 1), ("make", 9, 0, 0), ("rest",), ("back", 0)])]
        hand = hand_at(program, [5], 3, 0, 2)
        self.check(hand, least(program), [5, 3] + [-1] * 6, [-1, 6], [], 7, [])

    def test_holds_of_nothing_alone(self):
        program = [("n", "n", 1, [("nil", 1), ("nil", 8), ("rest",), ("same", 1, 8, 4), ("back", 0)])]
        hand = hand_at(program, [5], 3, 0, 2)
        self.check(hand, least(program), [5, 0] + [-1] * 6, [0], [], 3, [])

    def test_a_spot_of_a_box_in_a_word_and_of_a_word_in_a_box(self):
        rows = [("make", 0, 2, 3), ("into", 9, 0, 2), ("make", 8, 0, 1), ("into", 1, 8, 0), ("put", 2, 7),
                ("lay", 9, 0, 2), ("rest",), ("look", 3, 9, 0), ("tell", 3), ("look", 3, 1, 8), ("back", 3)]
        program = [("", "n", 2, rows)]
        hand = hand_at(program, [], 10, 0, 6)
        self.assertEqual((hand.boxes[:2], hand.pile), ([10, 17], [16, 15]))
        self.check(hand, least(program), [18, 25, 7, -1, -1, -1, -1, -1], [24, 23],
                   [(18, (0, 0), (0, 0, 7)), (24, (), (0,))], 26, [(10, 18), (16, 24)])
        # A number that looks like a hold, and a hold that is not told, stay.
        rows[4] = ("put", 2, 10)
        hand = hand_at(program, [], 10, 0, 6)
        cart_hand(hand, least(program))
        self.assertEqual(hand.boxes, [18, 25, 10, -1, -1, -1, -1, -1])

    def test_a_round_of_holds(self):
        rows = [("make", 0, 1, 0), ("hang", 0, 0, 0), ("make", 1, 1, 1), ("hang", 1, 0, 0), ("rest",),
                ("fetch", 1, 1, 0), ("same", 1, 0, 7), ("put", 1, 0), ("back", 1)]
        program = [("", "n", 0, rows)]
        hand = hand_at(program, [], 1, 0, 4)
        self.check(hand, least(program), [6, 8] + [-1] * 6, [], [(6, (6,), ()), (8, (6,), (0,))], 11, [(1, 6), (3, 8)])

    def test_two_waiting_frames_of_one_def(self):
        # Each frame waits with its own thing in its own word.
        rows = [("make", 8, 0, 1), ("write", 8, 0, 0), ("zero", 0, 7), ("put", 1, 1), ("less", 0, 0, 1),
                ("call", 0, 0, (0,)), ("tell", 0), ("rest",), ("read", 0, 8, 0), ("back", 0)]
        program = [("n", "n", 1, rows)]
        self.assertIsNone(fault(program, None))
        tables = least(program)
        self.assertEqual(tables, [(0, 0, [], []), (0, 5, [8], []), (0, 7, [8], [])])
        hand = hand_at(program, [2], 1, 0, 7)
        self.check(hand, tables, [0, 1] + [-1] * 6, [11, 9, 7], [(7, (), (0,)), (9, (), (1,)), (11, (), (2,))], 13,
                   [(5, 7), (3, 9), (1, 11)])
        for when in [[], [True] * 9, [False, True, True, False, True, True]]:
            self.assertEqual(carried(program, tables, [2], 400, when, 1), run(program, [2], 400, 1))

    def test_each_call_by_its_own_table(self):
        # The same def waits at two calls whose tables differ.
        program = [
            ("n", "n", 2, [("make", 8, 0, 1), ("make", 9, 0, 1), ("zero", 0, 6), ("call", 0, 1, ()), ("read", 0, 8, 0),
                           ("back", 0), ("call", 0, 1, ()), ("read", 0, 9, 0), ("back", 0)]),
            ("", "n", 0, [("rest",), ("put", 0, 1), ("back", 0)]),
        ]
        tables = least(program)
        self.check(hand_at(program, [0], 1, 1, 0), tables, [0] + [-1] * 7, [1, 5], [(5, (), (0,))], 7, [(3, 5)])
        self.check(hand_at(program, [1], 1, 1, 0), tables, [1] + [-1] * 7, [5, 3], [(5, (), (0,))], 7, [(1, 5)])


# What can be seen of a hand through places of known kinds, wherever its things lie.
def shape(hand, tables):
    places = []
    kinds = kinds_of(hand.program, hand.f, tables)[hand.at]
    first = len(hand.pile)
    for f, at in [(hand.f, hand.at)] + hand.frames[::-1]:
        first -= hand.program[f][2]
        if (f, at, first) != (hand.f, hand.at, len(hand.pile) - hand.program[f][2]):
            table = [table for table in tables if table[:2] == (f, at)][0]
            kinds = [None] * (8 + hand.program[f][2])
            for p in table[2]:
                kinds[p] = "h"
            for s, b in table[3]:
                kinds[s] = b
        words = hand.boxes + hand.pile[first:first + hand.program[f][2]]
        places.append((kinds, words))
    things = {0: 0}
    order = []
    for kinds, words in places:
        order += [word for kind, word in zip(kinds, words) if kind == "h"]
    told = {address: (holds, numbers) for address, holds, numbers in hand.yard.told()}
    seen = []
    for address in order:
        if address not in things:
            things[address] = len(things)
            order += told[address][0]
            seen.append(address)
    shapes = [(tuple([things[hold] for hold in told[address][0]]), told[address][1]) for address in seen]
    worths = []
    for kinds, words in places:
        for kind, word in zip(kinds, words):
            if kind == "n":
                worths.append(word)
            elif kind == "h":
                worths.append(("h", things[word]))
            elif kind is not None:
                worths.append(("s", things[words[kind]], word - words[kind]))
    return (hand.f, hand.at, hand.frames, hand.news, hand.end, shapes, worths)


class CarriedTest(unittest.TestCase):
    def check(self, program, tables, inputs, most, when, start):
        before = copy.deepcopy((program, tables, inputs, when))
        told = carried(program, tables, inputs, most, when, start)
        self.assertIs(type(told), tuple)
        self.assertIs(type(told[1]), list)
        self.assertEqual(told, run(program, inputs, most, 1))
        self.assertEqual((program, tables, inputs, when), before)
        told[1].append(3)
        return told

    # The rows at which the carter came, as (f, at, news so far).
    def comings(self, program, tables, inputs, most, when):
        found = []

        def watched(hand, handed):
            self.assertIs(handed, tables)
            found.append((hand.f, hand.at, list(hand.news)))
            return cart_hand(hand, handed)

        with mock.patch.object(carried_file, "cart_hand", watched):
            told = carried(program, tables, inputs, most, when, 1)
        self.assertEqual(told, run(program, inputs, most, 1))
        return found

    ROUND = [("n", "n", 1, [("put", 1, 1), ("zero", 0, 8), ("make", 8, 1, 1), ("tell", 0), ("rest",), ("none", 8, 6),
                            ("less", 0, 0, 1), ("jump", 1), ("back", 0)])]

    def test_a_truth_for_each_rest_and_make_that_the_run_comes_to(self):
        tables = least(self.ROUND)
        every = [(0, 2, []), (0, 4, [3]), (0, 2, [3]), (0, 4, [3, 2]), (0, 2, [3, 2]), (0, 4, [3, 2, 1])]
        for bits in range(64):
            when = [bits >> k & 1 == 1 for k in range(6)]
            expected = [one for k, one in enumerate(every) if when[k]]
            self.assertEqual(self.comings(self.ROUND, tables, [3], 400, when), expected)
            self.assertEqual(self.comings(self.ROUND, tables, [3], 400, when + [True] * 300), expected)

    def test_a_shorter_list(self):
        tables = least(self.ROUND)
        every = [(0, 2, []), (0, 4, [3]), (0, 2, [3]), (0, 4, [3, 2]), (0, 2, [3, 2]), (0, 4, [3, 2, 1])]
        for many in range(7):
            self.assertEqual(self.comings(self.ROUND, tables, [3], 400, [True] * many), every[:many])
        self.assertEqual(self.comings(self.ROUND, tables, [3], 400, [False, True]), [(0, 4, [3])])
        self.assertEqual(self.comings(self.ROUND, tables, [3], 400, []), [])

    def test_a_row_that_is_not_gone_any_more_is_not_come_to(self):
        tables = least(self.ROUND)
        for most, many in [(0, 0), (1, 0), (2, 0), (3, 1), (4, 1), (5, 2), (8, 2), (9, 2), (10, 3), (11, 3), (12, 4)]:
            self.assertEqual(len(self.comings(self.ROUND, tables, [3], most, [True] * 9)), many, most)

    def test_calls_have_no_truth(self):
        program = [("n", "n", 1, [("copy", 8, 0), ("call", 0, 1, (8,)), ("rest",), ("call", 0, 1, (8,)),
                                  ("make", 1, 0, 0), ("back", 8)]),
                   ("n", "n", 0, [("tell", 0), ("rest",), ("back", 0)])]
        tables = least(program)
        every = [(1, 1, [4]), (0, 2, [4]), (1, 1, [4, 4]), (0, 4, [4, 4])]
        for bits in range(16):
            when = [bits >> k & 1 == 1 for k in range(4)]
            expected = [one for k, one in enumerate(every) if when[k]]
            self.assertEqual(self.comings(program, tables, [4], 400, when), expected)

    def test_the_first_row_and_the_last_but_one(self):
        program = [("", "n", 0, [("rest",), ("put", 0, 1), ("rest",), ("back", 0)])]
        self.assertEqual(self.comings(program, least(program), [], 4, [True, True]), [(0, 0, []), (0, 2, [])])
        self.assertEqual(self.comings(program, least(program), [], 1, [True, True]), [(0, 0, [])])

    def test_three_frames(self):
        for most in list(range(40)) + [400]:
            for when in [[], [True] * 20, [False, True] * 10, [False] * 4 + [True], [False] * 5 + [True]]:
                for start in [1, 7, GREAT]:
                    self.check(THREE, THREE_TABLES, [], most, when, start)

    def test_every_end(self):
        wrong = [("nil", 8), ("fetch", 1, 8, 0)]
        program = [("n", "n", 1, [("make", 8, 0, 1), ("tell", 0), ("rest",), ("rest",)] + wrong + [("back", 0)])]
        self.assertEqual(self.check(program, least(program), [2], 400, [True] * 3, 1)[0], ("nil", 0, 5))
        program[0][3][4] = ("rest",)
        self.assertEqual(self.check(program, least(program), [2], 400, [True] * 3, 1)[0], ("miss", 0, 5))
        program[0][3][5] = ("call", 0, 0, (0,))
        program[0][3][6] = ("jump", 6)
        self.assertEqual(self.check(program, least(program), [2], 400, [True] * 300, 1)[0], ("deep", 0, 5))
        self.assertEqual(self.check(program, least(program), [2], 100, [True] * 300, 1)[0], ("far", 0, 4))
        self.assertEqual(self.check(THREE, THREE_TABLES, [], 400, [True] * 9, 1)[0], ("back", 0))


class PromiseTest(unittest.TestCase):
    def programs(self, chance, many):
        for turn in range(many):
            if turn % 2:
                program = made_program(chance)
            else:
                program = mended(chance, guided_program(chance, 3, chance.choice([15, 25, 40]), 0.97))
            for tables in [least(program), known_tables(chance, program, 1)]:
                assert fit(program, tables) and fault(program, tables) is None
                yield program, tables, [chance.randrange(-1, 3) for letter in program[0][0]]

    def test_carted_runs_tell_and_end_as_the_others(self):
        chance = random.Random(27)
        ends = []
        for program, tables, inputs in self.programs(chance, 300):
            most = chance.choice([chance.randrange(60), 400])
            plain = run(program, inputs, most, 1)
            ends.append(plain[0][0])
            before = copy.deepcopy((program, tables))
            for share in [0, 0.3, 1]:
                when = [chance.random() < share or share == 1 for k in range(chance.choice([5, 400]))]
                for start in [1, chance.randrange(1, 99), GREAT]:
                    self.assertEqual(carried(program, tables, inputs, most, when, start), plain)
            self.assertEqual((program, tables), before)
        for end in ["back", "nil", "miss", "deep", "far"]:
            self.assertGreater(ends.count(end), 9, end)

    def test_a_carted_hand_looks_as_the_other_one_row_by_row(self):
        chance = random.Random(26)
        spots = 0
        for program, tables, inputs in self.programs(chance, 60):
            one = Hand(program, inputs, 1)
            other = Hand(program, inputs, 1)
            for gone in range(60):
                if one.end is not None:
                    break
                seen = shape(one, tables)
                self.assertEqual(seen, shape(other, tables))
                if one.next_row()[0] in ("rest", "make"):
                    pairs = cart_hand(other, tables)
                    self.assertEqual([now for old, now in pairs], [told[0] for told in other.yard.told()])
                spots += len([worth for worth in seen[-1] if isinstance(worth, tuple) and worth[0] == "s"])
                one.go()
                other.go()
        self.assertGreater(spots, 500)
