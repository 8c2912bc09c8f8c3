"""Promises 12 and 13: runs and their ends, also against another machine that keeps things by themselves."""

import copy
import random
import unittest

from knownholds.forms import formed
from knownholds.hand import Hand
from knownholds.runs import run
from makers import made_program

GREAT = 10 ** 60 - 1

# Programs that end in each way, with inputs, the rows gone ahead of the end, the end, and the news.
COUNT = [("n", "n", 1, [("put", 1, 1), ("zero", 0, 5), ("tell", 0), ("less", 0, 0, 1), ("jump", 1), ("back", 0)])]
TWICE = [("n", "n", 0, [("call", 3, 1, (0,)), ("tell", 3), ("call", 3, 1, (3,)), ("back", 3)]),
         ("n", "n", 1, [("plus", 8, 0, 0), ("back", 8)])]
DEEP = [("n", "n", 2, [("tell", 0), ("call", 0, 0, (0,)), ("back", 0)])]
LOOP = [("", "n", 0, [("put", 0, 3), ("tell", 0), ("jump", 1)])]


def field_program(first, row):
    rows = [("put", 5, 4), ("tell", 5), ("make", 6, 1, 1), first, row, ("tell", 5), ("back", 5)]
    return [("", "n", 1, [("put", 0, 8), ("tell", 0), ("call", 8, 1, ()), ("back", 8)]), ("", "n", 1, rows)]


def field_runs():
    runs = []
    for word, row in [("fetch", ("fetch", 1, 8, 3)), ("read", ("read", 1, 8, 3)), ("hang", ("hang", 8, 3, 6)),
                      ("write", ("write", 8, 3, 5)), ("into", ("into", 1, 8, 3))]:
        runs.append((field_program(("nil", 8), row), [], 7, ("nil", 1, 4), [8, 4]))
        h, m = (3, 9) if word in ("fetch", "hang") else (9, 3)
        runs.append((field_program(("make", 8, h, m), row), [], 7, ("miss", 1, 4), [8, 4]))
        h, m = (4, 0) if word in ("fetch", "hang") else (0, 4)
        runs.append((field_program(("make", 8, h, m), row), [], 10, ("back", 4), [8, 4, 4]))
    return runs


RUNS = field_runs() + [
    ([("n", "n", 0, [("back", 0)])], [7], 0, ("back", 7), []),
    ([("nnnnnn", "n", 0, [("tell", 5), ("back", 4)])], [1, 2, 3, 4, -GREAT, GREAT], 1, ("back", -GREAT), [GREAT]),
    (COUNT, [0], 2, ("back", 0), []),
    (COUNT, [3], 14, ("back", 0), [3, 2, 1]),
    (COUNT, [99], 398, ("back", 0), list(range(99, 0, -1))),
    (TWICE, [-5], 7, ("back", -20), [-10]),
    (DEEP, [6], 81, ("deep", 0, 1), [6] * 41),
]


class RunTest(unittest.TestCase):
    def check(self, program, inputs, most, start, end, news):
        before = (copy.deepcopy(program), list(inputs))
        told = run(program, inputs, most, start)
        self.assertIs(type(told), tuple)
        self.assertEqual(told, (end, news))
        self.assertIs(type(told[0]), tuple)
        self.assertIs(type(told[1]), list)
        self.assertEqual((program, inputs), before)

    def test_every_end(self):
        for program, inputs, gone, end, news in RUNS:
            self.assertTrue(formed(program))
            for most in [gone + 1, gone + 2, 400]:
                for start in [1, 9, 1234, GREAT]:
                    with self.subTest(program=program, most=most, start=start):
                        self.check(program, inputs, most, start, end, news)

    def test_far_goes_ahead_of_every_end(self):
        for program, inputs, gone, end, news in RUNS:
            hand = Hand(program, inputs, 1)
            for most in range(gone + 1):
                with self.subTest(program=program, most=most):
                    self.assertIsNone(hand.end)
                    self.check(program, inputs, most, 1, ("far", hand.f, hand.at), hand.news)
                    hand.go()
            self.assertEqual(hand.end, end)

    def test_far_with_no_row_allowed(self):
        for program, inputs, gone, end, news in RUNS:
            for start in [1, GREAT]:
                self.check(program, inputs, 0, start, ("far", 0, 0), [])

    def test_a_round_without_end_is_far_at_the_next_row(self):
        for most in range(400):
            at = min(most, 1 + (most + 1) % 2)
            self.check(LOOP, [], most, 1, ("far", 0, at), [3] * (most // 2))
        self.check(LOOP, [], 400, 1, ("far", 0, 1 + 401 % 2), [3] * 200)

    def test_the_end_itself_is_tried_where_one_row_more_is_allowed(self):
        program = [("", "n", 0, [("nil", 0), ("fetch", 1, 0, 0), ("jump", 0)])]
        self.check(program, [], 1, 1, ("far", 0, 1), [])
        self.check(program, [], 2, 1, ("nil", 0, 1), [])
        program = [("n", "n", 0, [("back", 0)])]
        self.check(program, [5], 0, 1, ("far", 0, 0), [])
        self.check(program, [5], 1, 1, ("back", 5), [])

    def test_deep_and_far_at_the_same_row(self):
        self.check(DEEP, [6], 81, 1, ("far", 0, 1), [6] * 41)
        self.check(DEEP, [6], 82, 1, ("deep", 0, 1), [6] * 41)

    def test_news_in_order_across_calls(self):
        program = [
            ("nn", "n", 2, [("copy", 8, 0), ("copy", 9, 1), ("tell", 8), ("call", 8, 1, (9,)), ("tell", 8),
                            ("tell", 9), ("back", 9)]),
            ("n", "n", 0, [("tell", 0), ("plus", 0, 0, 0), ("tell", 0), ("back", 0)]),
        ]
        self.check(program, [1, 20], 400, 1, ("back", 20), [1, 20, 40, 40, 20])

    def test_told_lists_are_the_askers_own(self):
        first = run(COUNT, [3], 400, 1)
        first[1].append(77)
        self.assertEqual(run(COUNT, [3], 400, 1), (("back", 0), [3, 2, 1]))

    def test_numbers_grow_beyond_sixty_figures(self):
        rows = [("tell", 0), ("plus", 0, 0, 0), ("jump", 0)]
        end, news = run([("n", "n", 0, rows)], [-GREAT], 400, 1)
        self.assertEqual(end, ("far", 0, 1))
        self.assertEqual(news, [-GREAT * 2 ** k for k in range(134)])


class Thing:
    def __init__(self, address, h, m):
        self.address = address
        self.holds = [None] * h
        self.numbers = [0] * m


# A machine that keeps things as objects, nothing as None, a spot as (thing, k), and each frame's words by themselves.
class Slow:
    def __init__(self, program, inputs, start):
        self.program = program
        self.free = start
        self.boxes = list(inputs) + [-1] * (8 - len(inputs))
        self.stack = [{"f": 0, "at": 0, "words": [-1] * program[0][2]}]
        self.things = []
        self.news = []
        self.end = None

    def get(self, p):
        return self.boxes[p] if p < 8 else self.stack[-1]["words"][p - 8]

    def put(self, p, worth):
        if p < 8:
            self.boxes[p] = worth
        else:
            self.stack[-1]["words"][p - 8] = worth

    def missing(self, q, fields, k):
        top = self.stack[-1]
        if self.get(q) is None:
            self.end = ("nil", top["f"], top["at"])
        elif k >= len(getattr(self.get(q), fields)):
            self.end = ("miss", top["f"], top["at"])
        return self.end is not None

    def go(self):
        top = self.stack[-1]
        row = self.program[top["f"]][3][top["at"]]
        way = getattr(self, "go_" + row[0])(*row[1:])
        if self.end is None:
            top["at"] = top["at"] + 1 if way is None else way

    def go_put(self, p, n):
        self.put(p, n)

    def go_nil(self, p):
        self.put(p, None)

    def go_copy(self, p, q):
        self.put(p, self.get(q))

    def go_plus(self, p, q, r):
        self.put(p, self.get(q) + self.get(r))

    def go_less(self, p, q, r):
        self.put(p, self.get(q) - self.get(r))

    def go_make(self, p, h, m):
        self.things.append(Thing(self.free, h, m))
        self.free += 1 + h + m
        self.put(p, self.things[-1])

    def go_fetch(self, p, q, k):
        if not self.missing(q, "holds", k):
            self.put(p, self.get(q).holds[k])

    def go_read(self, p, q, k):
        if not self.missing(q, "numbers", k):
            self.put(p, self.get(q).numbers[k])

    def go_hang(self, q, k, r):
        if not self.missing(q, "holds", k):
            self.get(q).holds[k] = self.get(r)

    def go_write(self, q, k, r):
        if not self.missing(q, "numbers", k):
            self.get(q).numbers[k] = self.get(r)

    def go_into(self, p, q, k):
        if not self.missing(q, "numbers", k):
            self.put(p, (self.get(q), k))

    def go_look(self, p, s, b):
        thing, k = self.get(s)
        assert thing is self.get(b)
        self.put(p, thing.numbers[k])

    def go_lay(self, s, b, r):
        thing, k = self.get(s)
        assert thing is self.get(b)
        thing.numbers[k] = self.get(r)

    def go_jump(self, t):
        return t

    def go_zero(self, p, t):
        return t if self.get(p) == 0 else None

    def go_none(self, p, t):
        return t if self.get(p) is None else None

    def go_same(self, p, q, t):
        return t if self.get(p) is self.get(q) else None

    def go_call(self, p, f, qs):
        top = self.stack[-1]
        if len(self.stack) == 41:
            self.end = ("deep", top["f"], top["at"])
            return None
        for box, worth in enumerate([self.get(q) for q in qs]):
            self.boxes[box] = worth
        self.stack.append({"f": f, "at": 0, "words": [-1] * self.program[f][2]})
        return top["at"]

    def go_back(self, p):
        given = self.get(p)
        if len(self.stack) == 1:
            self.end = ("back", given)
            return
        self.stack.pop()
        top = self.stack[-1]
        self.put(self.program[top["f"]][3][top["at"]][1], given)
        top["at"] += 1

    def go_tell(self, p):
        self.news.append(self.get(p))

    def go_rest(self):
        pass

    def state(self):
        top = self.stack[-1]
        pile = [word_of(worth) for frame in self.stack for worth in frame["words"]]
        things = [(thing.address, tuple([word_of(hold) for hold in thing.holds]), tuple(thing.numbers))
                  for thing in self.things]
        return (top["f"], top["at"], [word_of(worth) for worth in self.boxes], pile,
                [(frame["f"], frame["at"]) for frame in self.stack[:-1]], things, self.free, self.news, self.end)


def word_of(worth):
    if worth is None:
        return 0
    if isinstance(worth, Thing):
        return worth.address
    if isinstance(worth, tuple):
        return worth[0].address + 1 + len(worth[0].holds) + worth[1]
    return worth


def state_of(hand):
    return (hand.f, hand.at, hand.boxes, hand.pile, hand.frames, hand.yard.told(), hand.yard.free, hand.news, hand.end)


class AgainstSlowTest(unittest.TestCase):
    def follow(self, program, inputs, start):
        hand = Hand(program, inputs, start)
        slow = Slow(program, inputs, start)
        for gone in range(300):
            self.assertEqual(state_of(hand), slow.state())
            if hand.end is not None:
                break
            hand.go()
            slow.go()
        return hand.end

    def test_programs_of_all_sorts(self):
        chance = random.Random(12)
        ends = []
        for turn in range(500):
            program = made_program(chance)
            self.assertTrue(formed(program), program)
            before = copy.deepcopy(program)
            inputs = [chance.randrange(-1, 3) for letter in program[0][0]]
            end = self.follow(program, inputs, chance.choice([1, 17, GREAT]))
            ends.append("far" if end is None else end[0])
            most = chance.randrange(401)
            self.assertEqual(run(program, inputs, most, 1), run(program, inputs, most, GREAT))
            self.assertEqual(program, before)
        for end in ["back", "nil", "miss", "deep", "far"]:
            self.assertGreater(ends.count(end), 9, end)
