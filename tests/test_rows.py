"""Promise 9 with the table of 8, and the rows to which a way comes (16)."""

import copy
import random
import unittest

from knownholds.rows import is_stop, nexts, reached, uses, writes

# One def of each sort of takes and gives, so that calls and backs can be told apart.
PROGRAM = [
    ("nn", "n", 3, [("back", 0)]),
    ("hnh", "h", 16, [("back", 1)]),
    ("", "n", 0, [("back", 2)]),
    ("nnhhnh", "h", 1, [("back", 3)]),
]

# (row, uses, the place that it writes, whether it is a stop), all in def 0.
TABLE = [
    (("put", 3, 5), [], 3, False),
    (("put", 0, -(10 ** 60 - 1)), [], 0, False),
    (("nil", 4), [], 4, False),
    (("copy", 5, 6), [], 5, False),
    (("copy", 5, 5), [], 5, False),
    (("plus", 1, 2, 3), [(2, "n"), (3, "n")], 1, False),
    (("plus", 1, 3, 2), [(3, "n"), (2, "n")], 1, False),
    (("plus", 1, 1, 1), [(1, "n"), (1, "n")], 1, False),
    (("less", 4, 7, 6), [(7, "n"), (6, "n")], 4, False),
    (("less", 0, 7, 7), [(7, "n"), (7, "n")], 0, False),
    (("make", 2, 9, 8), [], 2, True),
    (("make", 0, 0, 0), [], 0, True),
    (("fetch", 1, 2, 9), [(2, "h")], 1, False),
    (("fetch", 2, 2, 0), [(2, "h")], 2, False),
    (("read", 3, 4, 7), [(4, "h")], 3, False),
    (("hang", 1, 5, 2), [(1, "h"), (2, "h")], None, False),
    (("hang", 3, 5, 3), [(3, "h"), (3, "h")], None, False),
    (("write", 6, 2, 1), [(6, "h"), (1, "n")], None, False),
    (("write", 6, 2, 6), [(6, "h"), (6, "n")], None, False),
    (("into", 8, 9, 3), [(9, "h")], 8, False),
    (("into", 0, 0, 3), [(0, "h")], 0, False),
    (("look", 4, 5, 6), [(5, 6)], 4, False),
    (("look", 0, 1, 0), [(1, 0)], 0, False),
    (("lay", 4, 5, 6), [(4, 5), (6, "n")], None, False),
    (("lay", 1, 0, 1), [(1, 0), (1, "n")], None, False),
    (("jump", 0), [], None, False),
    (("zero", 5, 0), [(5, "n")], None, False),
    (("none", 6, 0), [(6, "h")], None, False),
    (("same", 6, 7, 0), [(6, "h"), (7, "h")], None, False),
    (("same", 7, 6, 0), [(7, "h"), (6, "h")], None, False),
    (("same", 7, 7, 0), [(7, "h"), (7, "h")], None, False),
    (("call", 4, 0, (5, 6)), [(5, "n"), (6, "n")], 4, True),
    (("call", 0, 1, (10, 0, 9)), [(10, "h"), (0, "n"), (9, "h")], 0, True),
    (("call", 1, 1, (3, 3, 3)), [(3, "h"), (3, "n"), (3, "h")], 1, True),
    (("call", 2, 2, ()), [], 2, True),
    (("call", 10, 3, (6, 5, 4, 3, 2, 1)), [(6, "n"), (5, "n"), (4, "h"), (3, "h"), (2, "n"), (1, "h")], 10, True),
    (("back", 7), [(7, "n")], None, False),
    (("tell", 2), [(2, "n")], None, False),
    (("rest",), [], None, True),
]

STRAIGHT = [row for row, used, written, stop in TABLE if row[0] not in ("jump", "zero", "none", "same", "back")]


class TableTest(unittest.TestCase):
    def test_all_words_are_tried(self):
        self.assertEqual(len(set([row[0] for row, used, written, stop in TABLE])), 21)

    def test_uses(self):
        before = copy.deepcopy(PROGRAM)
        for row, used, written, stop in TABLE:
            with self.subTest(row=row):
                told = uses(PROGRAM, 0, row)
                self.assertIsInstance(told, list)
                self.assertTrue(all([isinstance(pair, tuple) for pair in told]))
                self.assertEqual(told, used)
        self.assertEqual(PROGRAM, before)

    def test_uses_hang_on_the_def_at_back_alone(self):
        for f in range(4):
            for row, used, written, stop in TABLE:
                if row[0] != "back":
                    self.assertEqual(uses(PROGRAM, f, row), used)
            self.assertEqual(uses(PROGRAM, f, ("back", 5)), [(5, PROGRAM[f][1])])

    def test_back_by_what_its_def_gives(self):
        self.assertEqual(uses(PROGRAM, 0, ("back", 0)), [(0, "n")])
        self.assertEqual(uses(PROGRAM, 1, ("back", 23)), [(23, "h")])

    def test_told_uses_are_the_askers_own(self):
        for row, used, written, stop in TABLE:
            first = uses(PROGRAM, 0, row)
            first.append((0, "n"))
            self.assertEqual(uses(PROGRAM, 0, row), used)

    def test_writes(self):
        for row, used, written, stop in TABLE:
            with self.subTest(row=row):
                if written is None:
                    self.assertIsNone(writes(row))
                else:
                    self.assertEqual(writes(row), written)

    def test_is_stop(self):
        for row, used, written, stop in TABLE:
            with self.subTest(row=row):
                self.assertIs(is_stop(row), stop)


class NextsTest(unittest.TestCase):
    def check(self, rows, at, due):
        before = list(rows)
        told = nexts(rows, at)
        self.assertIsInstance(told, list)
        self.assertEqual(told, due)
        told.append(99)
        self.assertEqual(nexts(rows, at), due)
        self.assertEqual(rows, before)

    def rows_with(self, row, at):
        rows = [("rest",)] * 5 + [("back", 0)]
        rows[at] = row
        return rows

    def test_straight_rows(self):
        for row in STRAIGHT:
            for at in range(5):
                with self.subTest(row=row, at=at):
                    self.check(self.rows_with(row, at), at, [at + 1])

    def test_jump(self):
        for at in range(6):
            for t in range(6):
                self.check(self.rows_with(("jump", t), at), at, [t])

    def test_back(self):
        for at in range(6):
            for p in range(8):
                self.check(self.rows_with(("back", p), at), at, [])

    def test_zero_none_and_same(self):
        for at in range(5):
            for t in range(6):
                due = [at + 1] if t == at + 1 else [min(t, at + 1), max(t, at + 1)]
                for row in [("zero", 4, t), ("none", 4, t), ("same", 4, 3, t)]:
                    with self.subTest(row=row, at=at):
                        self.check(self.rows_with(row, at), at, due)


class ReachedTest(unittest.TestCase):
    def check(self, rows, due):
        before = list(rows)
        told = reached(rows)
        self.assertIsInstance(told, list)
        self.assertEqual(told, due)
        told.append(99)
        self.assertEqual(reached(rows), due)
        self.assertEqual(rows, before)

    def test_one_row(self):
        self.check([("back", 0)], [0])
        self.check([("jump", 0)], [0])

    def test_straight_on(self):
        self.check(STRAIGHT + [("back", 0)], list(range(len(STRAIGHT) + 1)))

    def test_rows_to_which_no_way_comes(self):
        self.check([("back", 0), ("rest",), ("back", 0)], [0])
        self.check([("jump", 3), ("rest",), ("jump", 1), ("back", 0)], [0, 3])
        self.check([("jump", 2), ("back", 0), ("zero", 0, 4), ("back", 0), ("jump", 2), ("back", 0)], [0, 2, 3, 4])

    def test_no_way_comes_from_a_row_to_which_none_comes(self):
        self.check([("back", 0), ("zero", 0, 3), ("back", 0), ("jump", 1)], [0])
        self.check([("jump", 0), ("jump", 2), ("jump", 1)], [0])

    def test_rounds(self):
        self.check([("rest",), ("zero", 0, 4), ("less", 0, 0, 1), ("jump", 0), ("back", 0)], [0, 1, 2, 3, 4])
        self.check([("jump", 2), ("back", 0), ("same", 1, 2, 2), ("jump", 1)], [0, 1, 2, 3])
        self.check([("none", 0, 0), ("jump", 0)], [0, 1])

    def test_both_ways_of_each_asking_row(self):
        for row in [("zero", 0, 3), ("none", 0, 3), ("same", 0, 1, 3)]:
            self.check([row, ("back", 0), ("rest",), ("back", 0)], [0, 1, 3])

    def test_against_a_way_by_way_search(self):
        chance = random.Random(9)
        for turn in range(400):
            many = chance.randrange(1, 13)
            rows = []
            for at in range(many):
                t = chance.randrange(many)
                choice = chance.choice(["jump", "back", "zero", "none", "same", "rest"])
                if at == many - 1:
                    choice = chance.choice(["jump", "back"])
                rows.append({"jump": ("jump", t), "back": ("back", 0), "zero": ("zero", 0, t),
                             "none": ("none", 0, t), "same": ("same", 0, 1, t), "rest": ("rest",)}[choice])
            self.check(rows, slow_reached(rows))

    def test_many_rows(self):
        rows = [("rest",)] * 399 + [("back", 0)]
        self.check(rows, list(range(400)))
        rows = [("jump", 399)] + [("jump", k - 1) for k in range(1, 400)]
        self.check(rows, list(range(400)))


# Grows the set of rows met by all steps out of it until nothing new is met.
def slow_reached(rows):
    met = {0}
    while True:
        wider = set(met)
        for at in met:
            row = rows[at]
            if row[0] != "back" and row[0] != "jump":
                wider.add(at + 1)
            if row[0] in ("jump", "zero", "none", "same"):
                wider.add(row[-1])
        if wider == met:
            return sorted(met)
        met = wider
