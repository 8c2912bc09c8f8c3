"""Promises 14 to 17: the first kinds, the kinds behind a row, the kinds of a def by all ways to its rows."""

import copy
import random
import unittest

from knownholds.kinds import behind, first_kinds, kinds_of
from knownholds.tables import least
from makers import guided_program, made_program, mended, slow_kinds

# What is known ahead of the row: numbers, holds, spots of boxes' things and of a word's thing.
AHEAD = ["n", "h", 1, 8, "h", None, "n", 4, "h", "n", 8, 1]
BOXES_LOST = {0: None, 1: None, 2: None, 3: None, 4: None, 5: None, 6: None, 7: None, 11: None}

# (row, what changes behind it)
CASES = [
    (("put", 5, 3), {5: "n"}),
    (("put", 0, 3), {}),
    (("put", 2, 0), {2: "n"}),
    (("put", 1, -7), {1: "n", 2: None, 11: None}),
    (("put", 8, 0), {8: "n", 3: None, 10: None}),
    (("nil", 5), {5: "h"}),
    (("nil", 0), {0: "h"}),
    (("nil", 3), {3: "h"}),
    (("nil", 1), {2: None, 11: None}),
    (("nil", 4), {7: None}),
    (("copy", 5, 0), {5: "n"}),
    (("copy", 5, 1), {5: "h"}),
    (("copy", 5, 2), {5: 1}),
    (("copy", 5, 3), {5: 8}),
    (("copy", 5, 5), {}),
    (("copy", 0, 5), {0: None}),
    (("copy", 2, 5), {2: None}),
    (("copy", 0, 0), {}),
    (("copy", 2, 2), {}),
    (("copy", 10, 10), {}),
    (("copy", 1, 1), {2: None, 11: None}),
    (("copy", 8, 8), {3: None, 10: None}),
    (("copy", 1, 5), {1: None, 2: None, 11: None}),
    (("copy", 1, 8), {2: None, 11: None}),
    (("copy", 1, 0), {1: "n", 2: None, 11: None}),
    (("copy", 1, 2), {1: None, 2: None, 11: None}),
    (("copy", 1, 10), {1: 8, 2: None, 11: None}),
    (("copy", 8, 2), {8: 1, 3: None, 10: None}),
    (("copy", 8, 10), {8: None, 3: None, 10: None}),
    (("copy", 7, 2), {7: 1}),
    (("plus", 5, 0, 6), {5: "n"}),
    (("plus", 0, 0, 0), {}),
    (("plus", 1, 0, 6), {1: "n", 2: None, 11: None}),
    (("less", 5, 9, 6), {5: "n"}),
    (("less", 8, 9, 9), {8: "n", 3: None, 10: None}),
    (("make", 5, 1, 2), {5: "h"}),
    (("make", 0, 0, 0), {0: "h"}),
    (("make", 1, 9, 9), {2: None, 11: None}),
    (("make", 8, 9, 9), {3: None, 10: None}),
    (("fetch", 5, 1, 0), {5: "h"}),
    (("fetch", 1, 1, 0), {2: None, 11: None}),
    (("fetch", 0, 8, 9), {0: "h"}),
    (("fetch", 8, 1, 9), {3: None, 10: None}),
    (("read", 5, 1, 0), {5: "n"}),
    (("read", 1, 1, 0), {1: "n", 2: None, 11: None}),
    (("hang", 1, 0, 8), {}),
    (("hang", 8, 5, 8), {}),
    (("write", 1, 0, 0), {}),
    (("into", 5, 1, 0), {5: 1}),
    (("into", 0, 8, 0), {0: 8}),
    (("into", 2, 8, 1), {2: 8}),
    (("into", 3, 8, 1), {}),
    (("into", 1, 1, 0), {1: None, 2: None, 11: None}),
    (("into", 8, 8, 0), {8: None, 3: None, 10: None}),
    (("into", 1, 8, 0), {1: 8, 2: None, 11: None}),
    (("into", 8, 1, 0), {8: 1, 3: None, 10: None}),
    (("look", 5, 2, 1), {5: "n"}),
    (("look", 2, 2, 1), {2: "n"}),
    (("look", 1, 2, 1), {1: "n", 2: None, 11: None}),
    (("lay", 2, 1, 0), {}),
    (("lay", 10, 8, 9), {}),
    (("jump", 0), {}),
    (("zero", 0, 0), {}),
    (("none", 1, 0), {}),
    (("same", 1, 4, 0), {}),
    (("call", 5, 1, ()), {**BOXES_LOST, 5: "n"}),
    (("call", 0, 1, ()), {**BOXES_LOST, 0: "n"}),
    (("call", 5, 2, (0, 1)), {**BOXES_LOST, 5: "h"}),
    (("call", 1, 2, (0, 1)), {**BOXES_LOST, 1: "h"}),
    (("call", 8, 1, ()), {**BOXES_LOST, 8: "n", 10: None}),
    (("call", 8, 2, (9, 8)), {**BOXES_LOST, 10: None}),
    (("call", 9, 2, (9, 8)), {**BOXES_LOST, 9: "h"}),
    (("call", 10, 1, ()), {**BOXES_LOST, 10: "n"}),
    (("call", 11, 2, (6, 4)), {**BOXES_LOST, 11: "h"}),
    (("back", 0), {}),
    (("tell", 0), {}),
    (("rest",), {}),
]

ALL_LOST = {1: None, 2: None, 3: None, 4: None, 7: None, 8: None, 10: None, 11: None}
ALL_TOLD = ([1, 4, 8], [(2, 1), (3, 8), (7, 4), (10, 8), (11, 1)])


def kept(*places):
    return {p: None for p in ALL_LOST if p not in places}


# (row, table, what changes behind it)
TABLE_CASES = [
    (("rest",), ([], []), ALL_LOST),
    (("rest",), ([1], []), kept(1)),
    (("rest",), ([8], []), kept(8)),
    (("rest",), ([1, 4, 8], []), kept(1, 4, 8)),
    (("rest",), ([1], [(2, 1)]), kept(1, 2)),
    (("rest",), ([1], [(11, 1)]), kept(1, 11)),
    (("rest",), ([1, 8], [(2, 8)]), kept(1, 8)),
    (("rest",), ([1, 8], [(2, 8), (10, 8)]), kept(1, 8, 10)),
    (("rest",), ([1, 8], [(10, 1), (11, 8)]), kept(1, 8)),
    (("rest",), ALL_TOLD, {}),
    (("rest",), ([0, 5, 9], []), ALL_LOST),
    (("rest",), ([0, 1, 2, 3, 4, 5, 6, 7, 8, 9, 10, 11], []), kept(1, 4, 8)),
    (("rest",), ([1, 8], [(0, 1), (4, 8), (5, 1)]), kept(1, 8)),
    (("make", 5, 1, 1), ([], []), {**ALL_LOST, 5: "h"}),
    (("make", 5, 1, 1), ALL_TOLD, {5: "h"}),
    (("make", 1, 1, 1), ([], []), {**ALL_LOST, 1: "h"}),
    (("make", 1, 1, 1), ALL_TOLD, {2: None, 11: None}),
    (("make", 2, 1, 1), ([1], [(11, 1)]), {**kept(1, 11), 2: "h"}),
    (("make", 0, 0, 0), ([8], [(3, 8)]), {**kept(3, 8), 0: "h"}),
    (("call", 9, 1, ()), ([], []), {**BOXES_LOST, 8: None, 10: None}),
    (("call", 9, 1, ()), ([8], []), {**BOXES_LOST, 10: None}),
    (("call", 9, 1, ()), ([8], [(10, 8)]), BOXES_LOST),
    (("call", 5, 1, ()), ([8], [(10, 8)]), {**BOXES_LOST, 5: "n"}),
    (("call", 8, 2, (0, 1)), ([8], [(10, 8)]), {**BOXES_LOST, 10: None}),
    (("call", 8, 2, (0, 1)), ([], []), {**BOXES_LOST, 8: "h", 10: None}),
    (("call", 10, 2, (0, 1)), ([8], []), {**BOXES_LOST, 10: "h"}),
    (("call", 11, 2, (9, 8)), ([8], [(10, 8)]), {**BOXES_LOST, 11: "h"}),
    # What a table tells of boxes at a call is forgotten ahead of it.
    (("call", 5, 1, ()), ALL_TOLD, {**BOXES_LOST, 5: "n"}),
    # Only at stops is a table asked.
    (("put", 5, 1), ([], []), {5: "n"}),
    (("copy", 5, 1), ([], []), {5: "h"}),
    (("zero", 0, 0), ([], []), {}),
    (("jump", 0), ([], []), {}),
]


def program_of(row):
    return [("nn", "n", 4, [row, ("back", 0)]), ("", "n", 0, [("back", 0)]), ("nh", "h", 0, [("back", 1)])]


class FirstKindsTest(unittest.TestCase):
    def check(self, takes, words, kinds):
        program = [("n", "n", 3, [("back", 0)]), (takes, "h", words, [("back", 0)])]
        before = copy.deepcopy(program)
        told = first_kinds(program, 1)
        self.assertIs(type(told), list)
        self.assertEqual(told, kinds)
        told.append("n")
        self.assertEqual(first_kinds(program, 1), kinds)
        self.assertEqual(program, before)
        self.assertEqual(first_kinds(program, 0), ["n"] + [None] * 10)

    def test_of_what_is_taken(self):
        self.check("", 0, [None] * 8)
        self.check("", 16, [None] * 24)
        self.check("n", 0, ["n"] + [None] * 7)
        self.check("nn", 2, ["n", "n"] + [None] * 8)
        self.check("h", 1, ["h"] + [None] * 8)
        self.check("hnnhnh", 0, ["h", "n", "n", "h", "n", "h", None, None])
        self.check("hhhhhh", 16, ["h"] * 6 + [None] * 18)
        self.check("nnnnnn", 3, ["n"] * 6 + [None] * 5)


class BehindTest(unittest.TestCase):
    def check(self, row, table, changes):
        program = program_of(row)
        ahead = list(AHEAD)
        before = copy.deepcopy((program, table))
        told = behind(program, 0, 0, ahead, table)
        expected = [changes.get(p, kind) for p, kind in enumerate(AHEAD)]
        self.assertIs(type(told), list)
        self.assertEqual(told, expected)
        self.assertEqual([type(kind) for kind in told], [type(kind) for kind in expected])
        self.assertIsNot(told, ahead)
        self.assertEqual(ahead, AHEAD)
        self.assertEqual((program, table), before)

    def test_all_words_are_tried(self):
        self.assertEqual(len(set([row[0] for row, changes in CASES])), 21)

    def test_each_word_without_a_table(self):
        for row, changes in CASES:
            with self.subTest(row=row):
                self.check(row, None, changes)

    def test_tables(self):
        for row, table, changes in TABLE_CASES:
            with self.subTest(row=row, table=table):
                self.check(row, table, changes)

    def test_a_row_that_is_not_the_first(self):
        rows = [("put", 0, 1), ("nil", 0), ("into", 0, 1, 0), ("jump", 0)]
        program = [("", "n", 0, [("back", 0)]), ("nh", "h", 2, rows)]
        kinds = ["n", "h"] + [None] * 8
        self.assertEqual(behind(program, 1, 1, kinds, None), ["h", "h"] + [None] * 8)
        self.assertEqual(behind(program, 1, 2, kinds, None), [1, "h"] + [None] * 8)
        self.assertEqual(behind(program, 1, 3, kinds, None), kinds)

    def test_nothing_known_at_all(self):
        for row in [("rest",), ("call", 9, 1, ()), ("copy", 1, 1), ("into", 1, 1, 0), ("into", 0, 0, 1)]:
            told = behind(program_of(row), 0, 0, [None] * 12, ([], []))
            self.assertEqual(told, [None] * 9 + (["n"] if row[0] == "call" else [None]) + [None] * 2)

    def test_place_0_is_a_place_and_no_nothing(self):
        ahead = ["h", 0, None, None, None, None, None, None, 0, None, None, None]
        self.assertEqual(behind(program_of(("copy", 2, 1)), 0, 0, ahead, None)[2], 0)
        self.assertEqual(behind(program_of(("copy", 0, 1)), 0, 0, ahead, None), [None] * 12)
        self.assertEqual(behind(program_of(("into", 3, 0, 0)), 0, 0, ahead, None)[3], 0)
        self.assertEqual(behind(program_of(("put", 0, 0)), 0, 0, ahead, None), ["n"] + [None] * 11)
        told = behind(program_of(("rest",)), 0, 0, ahead, ([0], [(8, 0)]))
        self.assertEqual(told, ["h"] + [None] * 7 + [0] + [None] * 3)
        self.assertEqual(behind(program_of(("call", 9, 1, ())), 0, 0, ahead, None), [None] * 9 + ["n"] + [None] * 2)

    def test_the_last_box_and_the_first_word(self):
        ahead = [None] * 7 + ["h", "h", 7, 8, None]
        told = behind(program_of(("call", 0, 1, ())), 0, 0, ahead, None)
        self.assertEqual(told, ["n"] + [None] * 7 + ["h", None, 8, None])


def some_of(chance, many):
    return [one for one in many if chance.random() < 0.8]


def shared(many):
    return [column[0] if len(set(column)) == 1 else None for column in zip(*many)]


class KindsOfTest(unittest.TestCase):
    def check(self, program, f, tables, kinds):
        before = copy.deepcopy((program, tables))
        told = kinds_of(program, f, tables)
        self.assertIs(type(told), list)
        self.assertEqual(told, kinds)
        lists = [one for one in told if one is not None]
        self.assertEqual(len(set([id(one) for one in lists])), len(lists))
        self.assertEqual((program, tables), before)
        for one in lists:
            one.append(0)
        self.assertEqual(kinds_of(program, f, tables), kinds)

    def test_straight_rows(self):
        rows = [("nil", 1), ("into", 2, 1, 0), ("copy", 0, 2), ("rest",), ("back", 0)]
        lists = [["n", None, None], ["n", "h", None], ["n", "h", 1], [1, "h", 1], [1, "h", 1]]
        self.check([("n", "n", 0, rows)], 0, None, [one + [None] * 5 for one in lists])
        lists[4] = [None, "h", 1]
        self.check([("n", "n", 0, rows)], 0, [(0, 3, [1], [(2, 1)])], [one + [None] * 5 for one in lists])
        lists[4] = [None, None, None]
        self.check([("n", "n", 0, rows)], 0, [(0, 3, [], [])], [one + [None] * 5 for one in lists])

    def test_rows_to_which_no_way_comes(self):
        rows = [("jump", 2), ("put", 0, 1), ("nil", 1), ("back", 1), ("zero", 1, 1), ("jump", 1)]
        nothing = [None] * 8
        self.check([("", "n", 0, rows)], 0, None, [nothing, None, nothing, [None, "h"] + [None] * 6, None, None])

    def test_what_comes_from_rows_without_a_way_does_not_count(self):
        rows = [("jump", 2), ("nil", 0), ("tell", 0), ("back", 0), ("put", 0, 1), ("jump", 2)]
        known = ["n"] + [None] * 7
        self.check([("n", "n", 0, rows)], 0, None, [known, None, known, known, None, None])

    def test_two_ways_that_differ(self):
        rows = [("zero", 0, 4), ("put", 1, 1), ("nil", 2), ("jump", 6), ("nil", 1), ("nil", 2), ("back", 0)]
        told = kinds_of([("n", "n", 1, rows)], 0, None)
        self.assertEqual(told[3], ["n", "n", "h"] + [None] * 6)
        self.assertEqual(told[6], ["n", None, "h"] + [None] * 6)

    def test_two_ways_with_spots_of_two_places(self):
        rows = [("nil", 1), ("nil", 2), ("into", 3, 1, 0), ("into", 4, 1, 0), ("zero", 0, 6), ("into", 3, 2, 0),
                ("back", 0)]
        told = kinds_of([("n", "n", 0, rows)], 0, None)
        self.assertEqual(told[5], ["n", "h", "h", 1, 1, None, None, None])
        self.assertEqual(told[6], ["n", "h", "h", None, 1, None, None, None])

    def test_a_row_that_may_go_on_at_one_row_by_two(self):
        rows = [("zero", 0, 1), ("nil", 1), ("same", 1, 1, 3), ("back", 0)]
        known = ["n", "h"] + [None] * 6
        self.check([("n", "n", 0, rows)], 0, None, [["n"] + [None] * 7] * 2 + [known] * 2)

    def test_ways_that_come_back(self):
        rows = [("put", 1, 1), ("tell", 0), ("nil", 1), ("zero", 0, 1), ("copy", 0, 1), ("jump", 1)]
        told = kinds_of([("n", "n", 0, rows)], 0, None)
        self.assertEqual(told[1], [None] * 8)
        self.assertEqual(told[2], [None] * 8)
        self.assertEqual(told[3], [None, "h"] + [None] * 6)

    def test_a_row_that_goes_on_at_row_0(self):
        rows = [("nil", 0), ("jump", 0)]
        self.check([("n", "n", 0, rows)], 0, None, [[None] * 8, ["h"] + [None] * 7])

    def test_a_kind_that_is_lost_only_behind_several_rounds(self):
        # Each round brings what is in each place one place on: the hold in 0 comes to 15 in the fifteenth.
        first = [("put", p, 1) for p in range(1, 17)]
        rows = first + [("copy", p, p - 1) for p in range(15, 0, -1)] + [("nil", 0), ("zero", 16, 16), ("back", 16)]
        program = [("n", "n", 9, rows)]
        told = kinds_of(program, 0, None)
        self.assertEqual(told[15], ["n"] * 16 + [None])
        self.assertEqual(told[16], [None] * 16 + ["n"])
        self.assertEqual(told[-1], ["h"] + [None] * 15 + ["n"])
        self.assertEqual([shared(one) for one in slow_kinds(program, 0, None, 15 * 17)][16][15], "n")
        self.check(program, 0, None, [shared(one) for one in slow_kinds(program, 0, None, 400)])

    def test_tables_of_the_def_and_row_alone(self):
        rows = [("nil", 0), ("rest",), ("make", 1, 0, 0), ("back", 0)]
        program = [("", "n", 0, rows), ("", "h", 0, rows)]
        tables = [(0, 1, [], []), (0, 2, [0], []), (1, 1, [0], []), (1, 2, [], [])]
        empty, held = [None] * 8, ["h"] + [None] * 7
        self.check(program, 0, tables, [empty, held, empty, [None, "h"] + [None] * 6])
        self.check(program, 1, tables, [empty, held, held, [None, "h"] + [None] * 6])
        self.check(program, 1, None, [empty, held, held, ["h", "h"] + [None] * 6])

    def test_a_table_in_a_round(self):
        rows = [("make", 8, 1, 1), ("rest",), ("call", 9, 0, ()), ("jump", 1)]
        program = [("", "n", 2, rows)]
        empty, held = [None] * 10, [None] * 8 + ["h", None]
        self.check(program, 0, [(0, 0, [], []), (0, 1, [8], []), (0, 2, [8], [])],
                   [empty, held, held, [None] * 8 + ["h", "n"]])
        self.check(program, 0, [(0, 0, [], []), (0, 1, [8], []), (0, 2, [], [])],
                   [empty, empty, empty, [None] * 9 + ["n"]])

    def test_eight_defs_of_forty_rows(self):
        program = []
        for f in range(8):
            rows = [("put", 8 + k % 16, k) if k % 2 == f % 2 else ("nil", 8 + k % 16) for k in range(38)]
            program.append(("", "h" if f else "n", 16, rows + [("zero", 0, f), ("jump", 0)]))
        for f in range(8):
            many = slow_kinds(program, f, None, 400)
            self.check(program, f, None, [shared(one) for one in many])

    def test_against_all_ways(self):
        chance = random.Random(1417)
        ways = 0
        for turn in range(250):
            program = guided_program(chance, 2, chance.choice([6, 14, 40]), chance.choice([0.3, 0.95]))
            for f in range(len(program)):
                many = slow_kinds(program, f, None, 600)
                ways += sum([len(one) > 1 for one in many])
                self.check(program, f, None, [shared(one) if one else None for one in many])
        self.assertGreater(ways, 200)

    def test_against_all_ways_with_tables(self):
        chance = random.Random(171)
        for turn in range(150):
            program = mended(chance, guided_program(chance, 2, 25, 0.97) if turn % 3 else made_program(chance))
            tables = [(f, at, some_of(chance, holds), some_of(chance, halves))
                      for f, at, holds, halves in least(program)]
            for f in range(len(program)):
                many = slow_kinds(program, f, tables, 600)
                self.check(program, f, tables, [shared(one) if one else None for one in many])
