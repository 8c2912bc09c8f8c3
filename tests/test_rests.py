"""Promises 28 to 30: bare rounds, the told and the fewest rests, rests put into a program."""

import copy
import itertools
import random
import unittest

from knownholds.faults import fault
from knownholds.rests import bare_round, fewest, rested, told_rests
from knownholds.runs import run
from makers import guided_program, made_program, mended, slow_nexts


def slow_reached(rows):
    found = [0]
    for at in found:
        found += [t for t in slow_nexts(rows, at) if t not in found]
    return sorted(set(found))


# Rows that lie on some round are those that come back to themselves, however many rows on.
def on_rounds(rows, allowed):
    found = []
    for at in allowed:
        ahead = [t for t in slow_nexts(rows, at) if t in allowed]
        for now in ahead:
            ahead += [t for t in slow_nexts(rows, now) if t in allowed and t not in ahead]
        if at in ahead:
            found.append(at)
    return found


def bare_of(rows, some):
    return [at for at in slow_reached(rows) if rows[at][0] not in ("make", "rest") and at not in some]


def slow_told(rows):
    told = []
    for at in range(len(rows) - 1, -1, -1):
        if at in on_rounds(rows, [t for t in bare_of(rows, told) if t >= at]):
            told.append(at)
    return sorted(told)


# Rows of a def by its targets: a number goes on there alone, a pair there or at the next row; else a word.
def rows_of(*told):
    rows = []
    for one in told:
        if isinstance(one, str):
            rows.append({"make": ("make", 0, 1, 1), "rest": ("rest",), "back": ("back", 0), "tell": ("tell", 0),
                         "call": ("call", 0, 0, ())}[one])
        else:
            rows.append(("zero", 0, one[0]) if isinstance(one, tuple) else ("jump", one))
    return rows


PUT = ("put", 1, 1)
SAME = ("same", 2, 3, 0)
REST = ("rest",)
BACK = ("back", 0)

STRAIGHT = rows_of("tell", "rest", "make", "call", "back")
TWO_ROUNDS = rows_of("tell", (0,), "tell", (2,), "back")
NESTED = rows_of("tell", "tell", (1,), "tell", (0,), "back")
SHARED = rows_of((3,), "tell", 0, "tell", 0)
APART = rows_of("tell", "back", "tell", 2)


def some_rows(chance, many):
    words = ["jump", "zero", "zero", "none", "same", "same", "tell", "tell", "put", "call", "make", "rest", "back"]
    rows = []
    for at in range(many):
        word = chance.choice(words if at < many - 1 else ["jump", "jump", "back"])
        t = chance.randrange(many)
        rows.append({"jump": ("jump", t), "zero": ("zero", 0, t), "none": ("none", 1, t), "same": ("same", 1, 2, t),
                     "tell": ("tell", 0), "put": ("put", 0, t), "call": ("call", 3, 0, (0,)), "make": ("make", 1, 1, 1),
                     "rest": ("rest",), "back": ("back", 0)}[word])
    return rows


class BareRoundTest(unittest.TestCase):
    def check(self, rows, some, there):
        before = copy.deepcopy((rows, some))
        found = bare_round(rows, some)
        self.assertEqual((rows, some), before)
        if not there:
            self.assertIsNone(found)
            return None
        self.assertIs(type(found), list)
        self.assertGreater(len(found), 0)
        self.assertEqual(len(set(found)), len(found))
        for at, after in zip(found, found[1:] + found[:1]):
            self.assertIn(after, slow_nexts(rows, at))
            self.assertIn(at, slow_reached(rows))
            self.assertNotIn(rows[at][0], ("make", "rest"))
            self.assertNotIn(at, some)
        kept = list(found)
        found.append(99)
        self.assertEqual(bare_round(rows, some), kept)
        return kept

    def test_no_round(self):
        self.check(STRAIGHT, [], False)
        self.check(STRAIGHT, [0, 3], False)
        self.check(rows_of("back"), [], False)
        self.check(rows_of((2,), "tell", "back"), [], False)

    def test_a_row_that_goes_on_at_itself(self):
        self.assertEqual(self.check(rows_of(0), [], True), [0])
        self.check(rows_of(0), [0], False)
        self.assertEqual(self.check(rows_of("tell", (1,), "back"), [], True), [1])
        self.assertEqual(self.check(rows_of("tell", (1,), "back"), [0, 2], True), [1])
        self.check(rows_of("tell", (1,), "back"), [1], False)

    def test_a_round_of_all_rows(self):
        rows = rows_of(*["tell"] * 39 + [0])
        found = self.check(rows, [], True)
        self.assertEqual(sorted(found), list(range(40)))
        for at in range(40):
            self.check(rows, [at], False)

    def test_rounds_to_which_no_way_comes(self):
        self.check(APART, [], False)
        self.check(rows_of("back", 1), [], False)
        self.check(rows_of(2, 0, "back"), [], False)
        # The round is of rows that are met, but one of them is not.
        self.check(rows_of(2, "tell", "back", 1), [], False)

    def test_rounds_with_a_make_or_a_rest_or_a_call(self):
        self.check(rows_of("tell", "make", 0), [], False)
        self.check(rows_of("tell", "rest", 0), [], False)
        self.check(rows_of("rest", 0), [], False)
        self.check(rows_of("make", "tell", 0), [], False)
        self.check(rows_of("tell", "call", 0), [], True)
        self.check(rows_of("tell", "call", 0), [1], False)

    def test_rounds_with_a_told_row(self):
        self.assertIn(self.check(TWO_ROUNDS, [0], True)[0], (2, 3))
        self.assertIn(self.check(TWO_ROUNDS, [3], True)[0], (0, 1))
        self.check(TWO_ROUNDS, [0, 2], False)
        self.check(TWO_ROUNDS, [1, 3], False)
        self.check(TWO_ROUNDS, [4], True)
        self.check(NESTED, [1], False)
        self.check(NESTED, [0], True)
        self.check(NESTED, [3], True)
        self.check(NESTED, [3, 2], False)
        self.check(SHARED, [0], False)
        self.check(SHARED, [1], True)

    def test_a_way_to_the_round_may_go_over_told_rows(self):
        rows = rows_of("rest", "make", "tell", "tell", 3)
        self.assertEqual(sorted(self.check(rows, [2, 0, 1], True)), [3, 4])

    def test_some_in_any_order_and_twice(self):
        self.check(TWO_ROUNDS, [2, 0], False)
        self.check(TWO_ROUNDS, [2, 0, 2, 2, 0], False)
        self.check(TWO_ROUNDS, [2, 2], True)
        self.check(TWO_ROUNDS, [0] * 400, True)
        self.check(TWO_ROUNDS, ([0, 4] * 200)[:399] + [3], False)
        self.check(TWO_ROUNDS, list(range(4, 400)), True)
        self.check(TWO_ROUNDS, list(range(399, -1, -1)), False)

    def test_at_random(self):
        chance = random.Random(28)
        there = 0
        for turn in range(1500):
            rows = some_rows(chance, chance.choice([1, 2, 3, 5, 8, 12, 40]))
            some = [chance.randrange(len(rows)) for k in range(chance.choice([0, 0, 1, 2, 5, 9]))]
            expected = bool(on_rounds(rows, bare_of(rows, some)))
            self.check(rows, some, expected)
            there += expected
        self.assertGreater(there, 300)
        self.assertLess(there, 1200)


class ToldTest(unittest.TestCase):
    def check(self, rows, expected):
        before = copy.deepcopy(rows)
        told = told_rests(rows)
        self.assertIs(type(told), list)
        self.assertEqual(told, expected)
        self.assertEqual(rows, before)
        self.assertIsNone(bare_round(rows, told))
        for at in told:
            self.assertIsNotNone(bare_round(rows, [t for t in told if t != at]))
        told.append(1)
        self.assertEqual(told_rests(rows), expected)

    def test_without_rounds(self):
        self.check(STRAIGHT, [])
        self.check(rows_of("back"), [])
        self.check(APART, [])
        self.check(rows_of("tell", "make", 0), [])
        self.check(rows_of("tell", "rest", 0), [])

    def test_one_round(self):
        self.check(rows_of(0), [0])
        self.check(rows_of("tell", "tell", 1), [1])
        self.check(rows_of("tell", 3, "back", "tell", 1), [1])
        self.check(rows_of(*["tell"] * 39 + [0]), [0])
        self.check(rows_of(*["tell"] * 39 + [39]), [39])

    def test_several(self):
        self.check(TWO_ROUNDS, [0, 2])
        self.check(NESTED, [1])
        self.check(SHARED, [0])
        self.check(rows_of((0,), (1,), (2,), "back"), [0, 1, 2])
        # The round of the rows 1 and 2 is met first; that of 0 and 1 has 1 in it.
        self.check(rows_of("tell", (0,), 1), [1])
        # That of 2 and 3 does not meet row 0; that of 0 and 1 is bare still.
        self.check(rows_of("tell", (0,), "tell", (2,), 0), [0, 2])

    def test_against_the_words(self):
        chance = random.Random(29)
        many = 0
        for turn in range(800):
            rows = some_rows(chance, chance.choice([1, 2, 3, 5, 8, 12, 25, 40]))
            expected = slow_told(rows)
            self.check(rows, expected)
            many += len(expected)
        self.assertGreater(many, 500)


class FewestTest(unittest.TestCase):
    def check(self, rows):
        before = copy.deepcopy(rows)
        told = fewest(rows)
        self.assertIs(type(told), list)
        self.assertEqual(rows, before)
        self.assertEqual(told, sorted(set(told)))
        self.assertTrue(set(told) <= set(slow_reached(rows)))
        self.assertEqual(on_rounds(rows, bare_of(rows, told)), [])
        for few in range(len(told)):
            for some in itertools.combinations(slow_reached(rows), few):
                self.assertNotEqual(on_rounds(rows, bare_of(rows, some)), [])
        kept = list(told)
        told.append(1)
        self.assertEqual(fewest(rows), kept)
        return kept

    def test_by_hand(self):
        self.assertEqual(self.check(STRAIGHT), [])
        self.assertEqual(self.check(rows_of("back")), [])
        self.assertEqual(self.check(rows_of(0)), [0])
        self.assertEqual(self.check(APART), [])
        self.assertEqual(len(self.check(TWO_ROUNDS)), 2)
        self.assertEqual(len(self.check(NESTED)), 1)
        self.assertEqual(self.check(SHARED), [0])
        self.assertEqual(self.check(rows_of(*[(at,) for at in range(9)] + [9])), list(range(10)))

    def test_fewer_than_the_told(self):
        # Two rounds share row 2 alone, which is the least of neither.
        rows = rows_of(2, 2, (0,), 1)
        self.assertEqual(told_rests(rows), [0, 1])
        self.assertEqual(self.check(rows), [2])

    def test_at_random(self):
        chance = random.Random(291)
        many = 0
        fewer = 0
        for turn in range(400):
            rows = some_rows(chance, chance.randrange(1, 11))
            if turn % 2:
                rows = [("zero", 0, chance.randrange(len(rows))) for row in rows[1:]] + [("jump", 0)]
            told = self.check(rows)
            many += len(told)
            fewer += len(told) < len(told_rests(rows))
        self.assertGreater(many, 300)
        self.assertGreater(fewer, 5)


class RestedTest(unittest.TestCase):
    def check(self, program, rests, expected):
        before = copy.deepcopy((program, rests))
        told = rested(program, rests)
        self.assertIs(type(told), list)
        self.assertEqual(told, expected)
        self.assertEqual((program, rests), before)
        lists = [one[3] for one in told] + [one[3] for one in program] + rests
        self.assertEqual(len(set([id(one[3]) for one in told])), len(told))
        for one in told:
            self.assertIs(type(one), tuple)
            self.assertEqual(len([other for other in lists if other is one[3]]), 1)
            self.assertTrue(all([type(row) is tuple for row in one[3]]))
        told[0][3].append(("rest",))
        self.assertEqual(rested(program, rests), expected)

    ROWS = [PUT, ("zero", 0, 5), ("none", 2, 2), SAME, ("jump", 1), BACK]

    def one(self, rests, rows):
        self.check([("nhh", "n", 3, self.ROWS)], [rests], [("nhh", "n", 3, rows)])

    def test_no_rests(self):
        self.one([], self.ROWS)

    def test_one_rest(self):
        self.one([0], [REST, PUT, ("zero", 0, 6), ("none", 2, 3), SAME, ("jump", 2), BACK])
        self.one([1], [PUT, REST, ("zero", 0, 6), ("none", 2, 3), SAME, ("jump", 1), BACK])
        self.one([2], [PUT, ("zero", 0, 6), REST, ("none", 2, 2), SAME, ("jump", 1), BACK])
        self.one([4], [PUT, ("zero", 0, 6), ("none", 2, 2), SAME, REST, ("jump", 1), BACK])
        self.one([5], [PUT, ("zero", 0, 5), ("none", 2, 2), SAME, ("jump", 1), REST, BACK])

    def test_some_and_all(self):
        self.one([1, 2], [PUT, REST, ("zero", 0, 7), REST, ("none", 2, 3), SAME, ("jump", 1), BACK])
        self.one([0, 1, 2, 3, 4, 5], [REST, PUT, REST, ("zero", 0, 10), REST, ("none", 2, 4), REST, SAME, REST,
                                      ("jump", 2), REST, BACK])

    def test_the_targets_of_each_word(self):
        for word in [("jump",), ("zero", 4), ("none", 4), ("same", 4, 5)]:
            for t in range(5):
                # Rests at the rows 1 and 3: what went on at them goes on at the rests.
                rows = [PUT, word + (t,), PUT, PUT, BACK]
                now = word + ([0, 1, 3, 4, 6][t],)
                fresh = [PUT, REST, now, PUT, REST, PUT, BACK]
                self.check([("nnnnhh", "n", 0, rows)], [[1, 3]], [("nnnnhh", "n", 0, fresh)])

    def test_a_row_that_goes_on_at_itself(self):
        self.check([("", "n", 0, [("jump", 0)])], [[0]], [("", "n", 0, [REST, ("jump", 0)])])
        self.check([("", "n", 0, [PUT, ("jump", 1)])], [[1]], [("", "n", 0, [PUT, REST, ("jump", 1)])])
        self.check([("", "n", 0, [PUT, ("jump", 1)])], [[0]], [("", "n", 0, [REST, PUT, ("jump", 2)])])

    def test_numbers_that_are_no_rows_stay(self):
        rows = [("put", 5, 5), ("nil", 5), ("copy", 5, 5), ("plus", 5, 5, 5), ("less", 5, 5, 5), ("make", 5, 5, 5),
                ("fetch", 5, 5, 5), ("read", 5, 5, 5), ("hang", 5, 5, 5), ("write", 5, 5, 5), ("into", 5, 5, 5),
                ("look", 5, 5, 5), ("lay", 5, 5, 5), ("call", 5, 0, ()), ("tell", 5), ("rest",), ("back", 5)]
        self.check([("", "n", 0, rows)], [[0]], [("", "n", 0, [("rest",)] + rows)])

    def test_defs_by_their_own_rests(self):
        rows = [("tell", 0), ("zero", 0, 1), ("back", 0)]
        program = [("n", "n", 0, rows), ("nh", "n", 4, rows), ("n", "n", 0, rows)]
        self.check(program, [[], [1], [0, 2]], [
            ("n", "n", 0, rows), ("nh", "n", 4, [("tell", 0), ("rest",), ("zero", 0, 1), ("back", 0)]),
            ("n", "n", 0, [("rest",), ("tell", 0), ("zero", 0, 2), ("rest",), ("back", 0)])])

    def test_like_defs_and_like_lists_of_rests(self):
        one = ("n", "n", 0, [("tell", 0), ("jump", 0)])
        put = ("n", "n", 0, [("rest",), ("tell", 0), ("jump", 0)])
        self.check([one] * 8, [[0] for f in range(8)], [put] * 8)
        rests = [0]
        told = rested([one] * 8, [rests] * 8)
        self.assertEqual(told, [put] * 8)
        self.assertEqual(len(set([id(one[3]) for one in told])), 8)
        told[0][3].append(("back", 0))
        self.assertEqual(told[1:], [put] * 7)
        self.assertEqual((one, rests), (("n", "n", 0, [("tell", 0), ("jump", 0)]), [0]))
        none = []
        told = rested([one] * 2, [none] * 2)
        self.assertEqual(told, [one] * 2)
        self.assertEqual(len(set([id(told[0][3]), id(told[1][3]), id(one[3])])), 3)

    def test_more_than_forty_rows(self):
        rows = [("tell", 0)] * 39 + [("jump", 20)]
        told = rested([("n", "n", 0, rows)], [list(range(40))])
        self.assertEqual(told[0][3], [("rest",), ("tell", 0)] * 39 + [("rest",), ("jump", 40)])

    # The end of the rested run, from that of the other: its row lies behind the rests put at rows up to it.
    def moved_end(self, end, rests):
        if end[0] == "back":
            return end
        return (end[0], end[1], end[2] + len([at for at in rests[end[1]] if at <= end[2]]))

    def test_rested_runs(self):
        chance = random.Random(30)
        ends = []
        for turn in range(400):
            program = made_program(chance) if turn % 2 else mended(chance, guided_program(chance, 3, 20, 0.97))
            rests = [[at for at in range(len(one[3])) if chance.random() < 0.3] for one in program]
            rests = [one[:40 - len(program[f][3])] for f, one in enumerate(rests)]
            if turn % 3 == 0:
                rests = [told_rests(one[3])[:40 - len(one[3])] for one in program]
            inputs = [chance.randrange(-1, 3) for letter in program[0][0]]
            end, news = run(program, inputs, 190, 1)
            fresh = rested(program, rests)
            self.assertIsNone(fault(fresh, None))
            ends.append(end[0])
            if end[0] != "far":
                self.assertEqual(run(fresh, inputs, 400, 1), (self.moved_end(end, rests), news))
        for end in ["back", "nil", "miss", "deep"]:
            self.assertGreater(ends.count(end), 5, end)
