"""Promises 21 and 22: what is needed ahead of a row, and the ways that show it."""

import copy
import random
import unittest

from knownholds.needs import needed, use_way
from makers import guided_program, made_program, slow_needed, slow_nexts, slow_travels, slow_uses

# (row, the places that it needs by itself)
USES = [
    (("put", 1, 5), []),
    (("nil", 1), []),
    (("copy", 1, 2), []),
    (("plus", 1, 2, 3), [2, 3]),
    (("plus", 1, 3, 2), [2, 3]),
    (("plus", 1, 1, 1), [1]),
    (("less", 1, 2, 8), [2, 8]),
    (("less", 1, 2, 1), [1, 2]),
    (("make", 1, 2, 3), []),
    (("fetch", 1, 2, 3), [2]),
    (("fetch", 2, 2, 3), [2]),
    (("read", 1, 9, 3), [9]),
    (("hang", 1, 2, 3), [1, 3]),
    (("hang", 3, 2, 1), [1, 3]),
    (("write", 1, 2, 3), [1, 3]),
    (("into", 1, 2, 3), [2]),
    (("into", 1, 1, 3), [1]),
    (("look", 1, 2, 3), [2]),
    (("look", 2, 2, 3), [2]),
    (("lay", 1, 2, 3), [1, 3]),
    (("lay", 1, 2, 1), [1]),
    (("zero", 4, 1), [4]),
    (("none", 4, 1), [4]),
    (("same", 4, 9, 1), [4, 9]),
    (("same", 9, 4, 1), [4, 9]),
    (("call", 1, 1, (9, 0)), [0, 9]),
    (("call", 1, 1, (2, 2)), [2]),
    (("call", 1, 2, ()), []),
    (("call", 1, 3, (6, 5, 4, 3, 2, 1)), [1, 2, 3, 4, 5, 6]),
    (("tell", 7), [7]),
    (("rest",), []),
]
# For the writing ones a row with p as a word of the pile.
WRITING = [("put", 8, 1), ("nil", 8), ("copy", 8, 1), ("plus", 8, 1, 2), ("less", 8, 1, 2), ("make", 8, 1, 2),
           ("fetch", 8, 1, 2), ("read", 8, 1, 2), ("into", 8, 1, 2), ("look", 8, 1, 2), ("call", 8, 2, ())]


def program_of(rows):
    return [("", "n", 2, rows), ("hn", "n", 0, [("back", 1)]), ("", "n", 0, [("back", 1)]),
            ("nnnhhh", "h", 0, [("back", 5)])]


class NeedsTest(unittest.TestCase):
    def check(self, program, f, expected=None):
        before = copy.deepcopy(program)
        told = needed(program, f)
        self.assertIs(type(told), list)
        self.assertEqual(len(set([id(one) for one in told])), len(program[f][3]))
        if expected is not None:
            self.assertEqual(told, expected)
        for at in range(len(program[f][3])):
            self.assertIs(type(told[at]), list)
            self.assertEqual(told[at], sorted(set(told[at])))
            for p in range(8 + program[f][2]):
                self.check_way(program, f, at, p, told)
        self.assertEqual(program, before)
        kept = copy.deepcopy(told)
        told[0].append(77)
        self.assertEqual(needed(program, f), kept)

    def check_way(self, program, f, at, p, told):
        way = use_way(program, f, at, p)
        if p not in told[at]:
            self.assertIsNone(way)
            return
        self.assertIs(type(way), list)
        self.assertTrue(all([type(pair) is tuple and len(pair) == 2 for pair in way]))
        self.assertEqual(way[0], (at, p))
        self.assertEqual(len(set(way)), len(way))
        for (row, place), (after, there) in zip(way, way[1:]):
            self.assertIn(after, slow_nexts(program[f][3], row))
            self.assertIn(there, slow_travels(program[f][3][row], place))
        self.assertTrue(slow_uses(program, f, way[-1][0], way[-1][1]))

    def test_each_words_uses(self):
        for row, places in USES:
            with self.subTest(row=row):
                self.check(program_of([row, ("jump", 1)]), 0, [places, []])
        self.check(program_of([("back", 6)]), 0, [[6]])
        self.check(program_of([("back", 9), ("jump", 0)]), 0, [[9], [9]])
        self.assertEqual(len(set([row[0] for row, places in USES])), 19)

    def test_use_ways_of_one_row(self):
        for row, places in USES:
            for p in range(10):
                told = use_way(program_of([row, ("jump", 1)]), 0, 0, p)
                self.assertEqual(told, [(0, p)] if p in places else None)

    def test_what_is_written_is_not_needed_ahead(self):
        for row in WRITING:
            used = [p for p in slow_needed(program_of([row, ("jump", 1)]), 0)[0]]
            more = [1] if row[0] == "copy" else []
            with self.subTest(row=row):
                self.check(program_of([row, ("back", 8)]), 0, [sorted(set(used + more)), [8]])

    def test_what_is_written_and_used_by_the_same_row(self):
        for row in [("plus", 3, 3, 4), ("less", 3, 4, 3), ("fetch", 3, 3, 0), ("read", 3, 3, 0), ("into", 3, 3, 0),
                    ("look", 3, 3, 0), ("call", 3, 1, (3, 3))]:
            told = needed(program_of([row, ("back", 3)]), 0)
            self.assertIn(3, told[0])
            self.assertEqual(use_way(program_of([row, ("back", 3)]), 0, 0, 3), [(0, 3)])

    def test_the_b_of_a_look_or_lay_is_not_used(self):
        self.check(program_of([("look", 0, 1, 2), ("lay", 3, 4, 5), ("jump", 2)]), 0, [[1, 3, 5], [3, 5], []])

    def test_boxes_at_a_call(self):
        rows = [("call", 9, 1, (0, 8)), ("tell", 0), ("tell", 1), ("tell", 7), ("tell", 8), ("back", 9)]
        self.check(program_of(rows), 0, [[0, 8], [0, 1, 7, 8, 9], [1, 7, 8, 9], [7, 8, 9], [8, 9], [9]])

    def test_a_box_that_a_call_writes(self):
        self.check(program_of([("call", 3, 2, ()), ("tell", 8), ("back", 3)]), 0, [[8], [3, 8], [3]])

    def test_the_qs_of_a_call_are_used_though_it_writes_them(self):
        self.check(program_of([("call", 8, 1, (8, 9)), ("back", 8)]), 0, [[8, 9], [8]])

    def test_copy(self):
        self.check(program_of([("copy", 1, 2), ("back", 1)]), 0, [[2], [1]])
        self.check(program_of([("copy", 1, 2), ("back", 2)]), 0, [[2], [2]])
        self.check(program_of([("copy", 1, 2), ("back", 3)]), 0, [[3], [3]])
        self.check(program_of([("copy", 1, 2), ("plus", 0, 1, 2), ("jump", 2)]), 0, [[2], [1, 2], []])

    def test_copy_of_a_place_into_itself(self):
        self.check(program_of([("copy", 1, 1), ("back", 1)]), 0, [[1], [1]])
        self.assertEqual(use_way(program_of([("copy", 1, 1), ("back", 1)]), 0, 0, 1), [(0, 1), (1, 1)])
        self.check(program_of([("copy", 1, 1), ("jump", 0)]), 0, [[], []])

    def test_chains_of_copies(self):
        rows = [("copy", p + 1, p) for p in range(9)] + [("back", 9)]
        self.check(program_of(rows), 0, [[at] for at in range(10)])
        self.assertEqual(use_way(program_of(rows), 0, 0, 0), [(at, at) for at in range(10)])
        rows = [("copy", p, p + 1) for p in range(9)] + [("back", 0)]
        self.check(program_of(rows), 0, [[1]] + [[0]] * 9)

    def test_rounds_of_copies(self):
        rows = [("copy", p, p + 1) for p in range(9)] + [("zero", 0, 0), ("back", 0)]
        self.check(program_of(rows), 0, None)
        self.assertEqual(needed(program_of(rows), 0)[0], list(range(1, 10)))
        self.assertEqual(needed(program_of(rows), 0)[9], list(range(10)))
        way = use_way(program_of(rows), 0, 0, 9)
        self.assertGreater(len(way), 70)

    def test_a_round_of_copies_without_a_use(self):
        rows = [("copy", 0, 1), ("copy", 1, 2), ("copy", 2, 0), ("jump", 0)]
        self.check(program_of(rows), 0, [[]] * 4)

    def test_two_ways_of_which_one_uses(self):
        rows = [("zero", 0, 3), ("put", 1, 1), ("back", 1), ("back", 2)]
        self.check(program_of(rows), 0, [[0, 2], [], [1], [2]])

    def test_rows_to_which_no_way_comes_are_told_too(self):
        rows = [("jump", 2), ("tell", 5), ("back", 0), ("copy", 0, 6), ("jump", 1)]
        self.check(program_of(rows), 0, [[0], [0, 5], [0], [5, 6], [0, 5]])

    def test_ways_that_come_back(self):
        rows = [("zero", 1, 4), ("tell", 2), ("less", 1, 1, 3), ("jump", 0), ("back", 5)]
        self.check(program_of(rows), 0, [[1, 2, 3, 5]] * 4 + [[5]])

    def test_a_row_that_goes_on_at_itself(self):
        self.check(program_of([("zero", 3, 0), ("jump", 1)]), 0, [[3], []])
        self.check(program_of([("jump", 0)]), 0, [[]])

    def test_other_defs(self):
        program = [("n", "n", 0, [("back", 0)]), ("hh", "h", 1, [("copy", 8, 0), ("call", 0, 2, (1,)), ("back", 8)]),
                   ("h", "n", 16, [("none", 0, 1), ("copy", 23, 22), ("back", 23)])]
        self.check(program, 0, [[0]])
        self.check(program, 1, [[0, 1], [1, 8], [8]])
        self.check(program, 2, [[0, 22], [22], [23]])

    def test_kinds_are_not_asked(self):
        # Row 1 uses 0 as a hold though it is a number: a fault, and needed all the same.
        self.check([("n", "n", 0, [("rest",), ("fetch", 1, 0, 0), ("back", 1)])], 0, [[0], [0], [1]])

    def test_forty_rows_and_sixteen_words(self):
        rows = [("copy", p, p + 1) for p in range(23)] + [("rest",)] * 15 + [("zero", 0, 0), ("back", 0)]
        program = [("", "n", 16, rows)]
        self.check(program, 0, None)
        self.assertEqual(needed(program, 0)[0], list(range(1, 24)))

    def test_at_random(self):
        chance = random.Random(2122)
        for turn in range(150):
            program = guided_program(chance, 2, chance.choice([5, 10, 30]), chance.choice([0, 0.9]))
            for f in range(len(program)):
                self.check(program, f, slow_needed(program, f))
        for turn in range(5):
            program = made_program(chance)
            for f in range(len(program)):
                self.check(program, f, slow_needed(program, f))
