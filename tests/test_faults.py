"""Promises 18 to 20: whether tables fit, the first fault, and the way that shows it."""

import copy
import random
import unittest

from knownholds.faults import fault, fit
from knownholds.tables import least
from makers import any_table, fitting_tables, guided_program, kinds_along, known_tables, made_program, mended
from makers import slow_fault, slow_nexts

STOPS = [
    ("", "n", 4, [("make", 0, 1, 1), ("put", 1, 1), ("rest",), ("call", 8, 1, (1,)), ("jump", 0), ("rest",),
                  ("back", 1)]),
    ("n", "h", 0, [("put", 0, 1), ("back", 0)]),
    ("h", "n", 16, [("rest",), ("call", 0, 1, (0,)), ("back", 0)]),
]
FITTING = [
    (0, 0, [0, 1, 8, 11], [(2, 0), (3, 11), (9, 11)]),
    (0, 2, [], []),
    (0, 3, [8, 11], [(9, 8), (10, 8)]),
    (0, 5, [7], [(0, 7), (6, 7), (8, 7)]),
    (2, 0, [23], [(0, 23), (22, 23)]),
    (2, 1, list(range(8, 23)), [(23, 22)]),
]


class FitTest(unittest.TestCase):
    def check(self, program, tables, answer):
        before = copy.deepcopy((program, tables))
        self.assertIs(fit(program, tables), answer)
        self.assertEqual((program, tables), before)

    def check_table(self, at, holds, halves, answer):
        tables = copy.deepcopy(FITTING)
        tables[at] = tables[at][:2] + (holds, halves)
        with self.subTest(at=at, holds=holds, halves=halves):
            self.check(STOPS, tables, answer)

    def test_tables_that_fit(self):
        self.check(STOPS, FITTING, True)
        self.check(STOPS, [(f, at, [], []) for f, at, holds, halves in FITTING], True)

    def test_a_table_left_out(self):
        for k in range(len(FITTING)):
            self.check(STOPS, FITTING[:k] + FITTING[k + 1:], False)
            self.check(STOPS, FITTING[:k], False)

    def test_a_table_told_twice(self):
        for k in range(len(FITTING)):
            self.check(STOPS, FITTING[:k] + [FITTING[k]] + FITTING[k:], False)
            self.check(STOPS, FITTING + [FITTING[k]], False)

    def test_a_table_turned_about_with_its_neighbour(self):
        for k in range(len(FITTING) - 1):
            self.check(STOPS, FITTING[:k] + [FITTING[k + 1], FITTING[k]] + FITTING[k + 2:], False)
        self.check(STOPS, FITTING[::-1], False)

    def test_a_table_of_another_row_or_def(self):
        for k, (f, at, holds, halves) in enumerate(FITTING):
            others = [(f, at + 1), (f, at - 1), (f, 1), (f, 40), (f, -1), (f + 1, at), (f - 1, at), (3, at), (-1, at),
                      (9, 9), (10 ** 60 - 1, at), (f, -(10 ** 60 - 1))]
            for other in others:
                if other != (f, at):
                    self.check(STOPS, FITTING[:k] + [other + (holds, halves)] + FITTING[k + 1:], False)
                    self.check(STOPS, FITTING[:k] + [other + ([], [])] + FITTING[k + 1:], False)
                    self.check(STOPS, FITTING[:k] + [other + ([], [])] + FITTING[k:], False)

    def test_a_row_that_is_no_stop(self):
        for at, row in enumerate([("put", 0, 1), ("back", 0)]):
            self.check(STOPS, FITTING[:4] + [(1, at, [], [])] + FITTING[4:], False)

    def test_where_there_are_no_stops(self):
        program = [("n", "n", 0, [("tell", 0), ("back", 0)])]
        self.check(program, [], True)
        self.check(program, [(0, 0, [], [])], False)
        self.check(program, [(0, 1, [], [])], False)

    def test_none_where_there_are_some(self):
        self.check(STOPS, [], False)
        self.check([("", "n", 0, [("rest",), ("jump", 0)])], [], False)
        self.check([("", "n", 0, [("rest",), ("jump", 0)])], [(0, 0, [], [])], True)

    def test_four_hundred_tables(self):
        program = [("", "n", 0, [("rest",)] * 39 + [("jump", 0)])] * 8
        tables = [(f, at, [0, 7], [(1, 7)]) for f in range(8) for at in range(39)]
        self.check(program, tables, True)
        self.check(program, tables + tables[-1:] * 88, False)

    def test_holds_that_do_not_rise(self):
        for holds in [[1, 0], [0, 0], [0, 1, 1], [8, 8, 11], [0, 8, 1, 11], [11, 8, 1, 0], [0, 2, 1, 3]]:
            self.check_table(0, holds, [], False)
            self.check_table(0, sorted(set(holds)), [], True)

    def test_halves_that_do_not_rise(self):
        for halves in [[(3, 0), (2, 0)], [(2, 0), (2, 0)], [(2, 0), (2, 1)], [(2, 1), (2, 0)],
                       [(2, 1), (4, 0), (3, 0)]]:
            self.check_table(0, [0, 1], halves, False)
        # Only by their s they rise.
        self.check_table(0, [0, 1], [(2, 1), (3, 0), (4, 1), (5, 1)], True)

    def test_places_beyond_the_defs(self):
        for p in [-1, 12, 13, 23, 24, 10 ** 60 - 1, -(10 ** 60 - 1)]:
            self.check_table(0, sorted([p, 1]), [], False)
            self.check_table(0, sorted([p, 1]), [(2, p)], False)
            self.check_table(0, [1], sorted([(p, 1), (2, 1)]), False)
            self.check_table(0, [1], [(p, 1)], False)
            self.check_table(0, [1], [(2, p)], False)
        self.check_table(0, [1, 11], [(2, 1), (10, 11)], True)
        self.check_table(4, [23], [(22, 23)], True)
        self.check_table(4, [23, 24], [(22, 23)], False)
        self.check_table(4, [22], [(24, 22)], False)
        self.check_table(4, [-1, 22], [(-2, 22)], False)

    def test_the_places_of_a_def_without_words(self):
        program = [("", "n", 0, [("rest",), ("call", 0, 0, ()), ("back", 0)])]
        self.check(program, [(0, 0, [0, 7], [(1, 7)]), (0, 1, [], [])], True)
        self.check(program, [(0, 0, [0, 8], []), (0, 1, [], [])], False)
        self.check(program, [(0, 0, [0], [(8, 0)]), (0, 1, [], [])], False)
        self.check(program, [(0, 0, [0], []), (0, 1, [8], [])], False)

    def test_boxes_at_a_call(self):
        for p in range(8):
            self.check_table(2, [p], [], False)
            self.check_table(2, [p, 8], [], False)
            self.check_table(2, [8], [(p, 8)], False)
            self.check_table(2, [p], [(9, p)], False)
            self.check_table(3, [p], [], True)
        self.check_table(2, [8, 9, 10, 11], [], True)

    def test_an_s_among_the_holds(self):
        self.check_table(0, [0, 1], [(0, 1)], False)
        self.check_table(0, [0, 1], [(1, 1)], False)
        self.check_table(0, [0, 1], [(1, 0), (2, 0)], False)
        self.check_table(0, [0, 11], [(11, 0)], False)
        self.check_table(2, [8, 9], [(9, 8)], False)

    def test_a_b_that_is_not_among_the_holds(self):
        self.check_table(0, [], [(0, 1)], False)
        self.check_table(0, [], [(1, 1)], False)
        self.check_table(0, [0], [(1, 2)], False)
        self.check_table(0, [0], [(1, 0), (2, 1)], False)
        self.check_table(2, [8], [(9, 8), (10, 9)], False)


# Rows that give places kinds: numbers in 0 1, holds in 2 3 8, spots of 3 in 4 10, of 8 in 9; nothing is known of the
# others up to 11.
FIRST = [("put", 1, 1), ("nil", 2), ("make", 3, 2, 2), ("into", 4, 3, 0), ("make", 8, 1, 1), ("into", 10, 3, 1),
         ("into", 9, 8, 0)]
KINDS = {0: "n", 1: "n", 2: "h", 3: "h", 4: 3, 8: "h", 9: 8, 10: 3}
AT = len(FIRST)

# (row, the pairs due in their order), of def 0, where all are as they must be.
ROWS = [
    (("put", 0, 1), []),
    (("nil", 0), []),
    (("copy", 0, 5), []),
    (("plus", 5, 0, 1), [(0, "n"), (1, "n")]),
    (("less", 0, 1, 0), [(1, "n"), (0, "n")]),
    (("make", 5, 1, 1), []),
    (("fetch", 0, 2, 1), [(2, "h")]),
    (("read", 0, 3, 1), [(3, "h")]),
    (("hang", 2, 0, 3), [(2, "h"), (3, "h")]),
    (("write", 3, 0, 1), [(3, "h"), (1, "n")]),
    (("into", 5, 8, 1), [(8, "h")]),
    (("look", 5, 4, 3), [(4, 3)]),
    (("look", 5, 9, 8), [(9, 8)]),
    (("lay", 4, 3, 1), [(4, 3), (1, "n")]),
    (("jump", 0), []),
    (("zero", 0, 0), [(0, "n")]),
    (("none", 3, 0), [(3, "h")]),
    (("same", 3, 8, 0), [(3, "h"), (8, "h")]),
    (("call", 5, 1, (0, 3, 8, 1)), [(0, "n"), (3, "h"), (8, "h"), (1, "n")]),
    (("call", 5, 2, ()), []),
    (("back", 1), [(1, "n")]),
    (("tell", 0), [(0, "n")]),
    (("rest",), []),
]


def program_of(row):
    rows = FIRST + [row, ("put", 0, 1), ("back", 0)]
    if row[0] == "jump":
        rows = FIRST + [("jump", AT + 1), ("put", 0, 1), ("back", 0)]
    if row[0] in ("zero", "none", "same"):
        rows = FIRST + [row[:-1] + (AT + 1,), ("put", 0, 1), ("back", 0)]
    return [("n", "n", 4, rows), ("nhhn", "h", 0, [("back", 1)]), ("", "n", 1, [("put", 8, 1), ("back", 8)])]


# The row with one place put out for another, at the nth of its uses.
def with_place(row, nth, p):
    if row[0] == "call":
        return row[:3] + (row[3][:nth] + (p,) + row[3][nth + 1:],)
    parts = {"plus": (2, 3), "less": (2, 3), "fetch": (2,), "read": (2,), "hang": (1, 3), "write": (1, 3), "into": (2,),
             "look": (2,), "lay": (1, 3), "zero": (1,), "none": (1,), "same": (1, 2), "back": (1,), "tell": (1,)}
    part = parts[row[0]][nth]
    return row[:part] + (p,) + row[part + 1:]


class Checks(unittest.TestCase):
    def check(self, program, tables, expected):
        before = copy.deepcopy((program, tables))
        found = fault(program, tables)
        self.assertEqual((program, tables), before)
        if expected is None:
            self.assertIsNone(found)
            return None
        self.assertIs(type(found), tuple)
        self.assertEqual(len(found), 5)
        self.assertEqual(found[:4], expected)
        self.assertIs(type(found[3]), type(expected[3]))
        self.check_way(program, tables, found)
        self.assertEqual(fault(program, tables)[:4], expected)
        return found

    def check_way(self, program, tables, found):
        f, at, p, due, way = found
        rows = program[f][3]
        self.assertIs(type(way), list)
        self.assertEqual((way[0], way[-1]), (0, at))
        for before, after in zip(way, way[1:]):
            self.assertIn(after, slow_nexts(rows, before))
        self.assertNotEqual(kinds_along(program, f, way, tables)[p], due)


class FaultTest(Checks):
    def test_no_fault(self):
        for row, dues in ROWS:
            with self.subTest(row=row):
                self.check(program_of(row), None, None)

    def test_each_use_of_each_word(self):
        tried = 0
        for row, dues in ROWS:
            for nth, (place, due) in enumerate(dues):
                for p in range(12):
                    if KINDS.get(p) != due:
                        with self.subTest(row=row, nth=nth, p=p):
                            self.check(program_of(with_place(row, nth, p)), None, (0, AT, p, due))
                            tried += 1
                    elif row[0] != "call":
                        self.check(program_of(with_place(row, nth, p)), None, None)
        self.assertGreater(tried, 150)

    def test_all_words_are_tried(self):
        self.assertEqual(len(set([row[0] for row, dues in ROWS])), 21)

    def test_look_and_lay_with_another_b(self):
        for b in [0, 1, 2, 5, 8, 10, 11]:
            self.check(program_of(("look", 5, 4, b)), None, (0, AT, 4, b))
            self.check(program_of(("lay", 4, b, 0)), None, (0, AT, 4, b))

    def test_back_of_a_def_that_gives_a_hold(self):
        program = [("n", "n", 0, [("back", 0)]), ("nh", "h", 0, [("back", 1)])]
        self.check(program, None, None)
        program[1] = ("nh", "h", 0, [("back", 0)])
        self.check(program, None, (1, 0, 0, "h"))
        program[1] = ("nh", "n", 0, [("back", 1)])
        self.check(program, None, (1, 0, 1, "n"))

    def test_the_uses_go_in_order(self):
        self.check(program_of(("plus", 5, 6, 7)), None, (0, AT, 6, "n"))
        self.check(program_of(("plus", 5, 7, 6)), None, (0, AT, 7, "n"))
        self.check(program_of(("hang", 7, 0, 6)), None, (0, AT, 7, "h"))
        self.check(program_of(("write", 1, 0, 2)), None, (0, AT, 1, "h"))
        self.check(program_of(("lay", 5, 2, 7)), None, (0, AT, 5, 2))
        self.check(program_of(("call", 5, 1, (0, 7, 6, 5))), None, (0, AT, 7, "h"))
        self.check(program_of(("call", 5, 1, (7, 7, 7, 7))), None, (0, AT, 7, "n"))

    def test_one_place_used_as_two_kinds(self):
        self.check(program_of(("write", 3, 0, 3)), None, (0, AT, 3, "n"))
        self.check(program_of(("write", 1, 0, 1)), None, (0, AT, 1, "h"))
        self.check(program_of(("lay", 4, 3, 4)), None, (0, AT, 4, "n"))
        self.check(program_of(("call", 5, 1, (3, 3, 3, 3))), None, (0, AT, 3, "n"))
        self.check(program_of(("call", 5, 1, (1, 3, 3, 3))), None, (0, AT, 3, "n"))

    def test_least_def_and_least_row(self):
        bad = ("h", "h", 0, [("fetch", 0, 0, 0), ("tell", 0), ("fetch", 5, 6, 0), ("back", 0)])
        good = ("n", "n", 0, [("back", 0)])
        self.check([good, bad, bad], None, (1, 1, 0, "n"))
        self.check([good, good, bad], None, (2, 1, 0, "n"))
        self.check([good] * 7 + [bad], None, (7, 1, 0, "n"))
        self.check([("n", "n", 0, [("back", 7)]), bad], None, (0, 0, 7, "n"))

    def test_row_0(self):
        found = self.check([("nn", "n", 0, [("tell", 2), ("back", 0)])], None, (0, 0, 2, "n"))
        self.assertEqual(found[4], [0])
        # Only the way that comes back to it shows it.
        self.check([("n", "n", 0, [("tell", 0), ("nil", 0), ("jump", 0)])], None, (0, 0, 0, "n"))

    def test_the_row_of_least_number_not_the_first_met(self):
        rows = [("jump", 3), ("tell", 7), ("back", 0), ("tell", 6), ("jump", 1)]
        self.check([("n", "n", 0, rows)], None, (0, 1, 7, "n"))

    def test_a_row_to_which_no_way_comes_has_none(self):
        rows = [("jump", 3), ("tell", 7), ("rest",), ("back", 0), ("fetch", 0, 0, 0), ("jump", 1)]
        self.check([("n", "n", 0, rows)], None, None)
        self.check([("n", "n", 0, rows)], [(0, 2, [0, 1], [(2, 1)])], None)

    def test_a_longer_way_shows_it(self):
        rows = [("nil", 1), ("zero", 0, 5), ("put", 1, 3), ("tell", 0), ("jump", 5), ("none", 1, 6), ("back", 0)]
        found = self.check([("n", "n", 0, rows)], None, (0, 5, 1, "h"))
        self.assertEqual(found[4], [0, 1, 2, 3, 4, 5])

    def test_a_way_that_goes_several_rounds(self):
        first = [("put", p, 1) for p in range(1, 17)]
        rows = first + [("copy", p, p - 1) for p in range(15, 0, -1)] + [("nil", 0), ("zero", 16, 16), ("back", 15)]
        found = self.check([("n", "n", 9, rows)], None, (0, 33, 15, "n"))
        self.assertEqual(found[4].count(16), 16)

    def test_a_way_through_both_arms_in_turn(self):
        # The hold comes to 3 only where the arm of row 4 is gone ahead of that of row 6.
        rows = [("put", 1, 0), ("put", 2, 0), ("zero", 0, 6), ("nil", 1), ("jump", 2), ("back", 0), ("copy", 2, 1),
                ("zero", 0, 2), ("tell", 2), ("jump", 5)]
        self.check([("n", "n", 0, rows)], None, (0, 8, 2, "n"))

    def test_ways_beyond_number(self):
        # Each zero row may go on at two rows, and the hold must be brought on five rounds long.
        rows = [("put", p, 1) for p in range(1, 7)] + [("copy", p, p - 1) for p in range(5, 0, -1)] + [("nil", 0)]
        rows += [("zero", 6, at + 2) for at in range(12, 37)] + [("tell", 6), ("zero", 5, 6), ("back", 6)]
        found = self.check([("n", "n", 0, rows)], None, (0, 38, 5, "n"))
        self.assertEqual(found[4].count(6), 6)

    def test_a_tables_hold(self):
        for p in range(12):
            tables = [(0, 2, [2], []), (0, 4, [2, 3], [(4, 3)]), (0, AT, [p], [])]
            self.check(program_of(("rest",)), tables, None if p in (2, 3, 8) else (0, AT, p, "h"))
            tables = [(0, 2, [2], []), (0, 4, [2, 3], [(4, 3)]), (0, AT, sorted(set([2, 3, 8, p])), [])]
            self.check(program_of(("rest",)), tables, None if p in (2, 3, 8) else (0, AT, p, "h"))
        for p in [0, 1, 3, 4, 11]:
            self.check(program_of(("rest",)), [(0, 2, [p], []), (0, 4, [], []), (0, AT, [], [])], (0, 2, p, "h"))

    def test_a_tables_half(self):
        tables = [(0, 2, [], []), (0, 4, [3], [(4, 3)]), (0, AT, [3, 8], [(4, 3), (9, 8), (10, 3)])]
        program = program_of(("rest",))
        self.check(program, tables, None)
        for s, b in [(0, 3), (1, 8), (2, 3), (4, 8), (5, 3), (7, 8), (9, 3), (10, 8), (11, 8)]:
            tables[2] = (0, AT, [3, 8], [(s, b)])
            self.check(program, tables, (0, AT, s, b))
        tables[2] = (0, AT, [3, 8], [(4, 3), (5, 8), (10, 8)])
        self.check(program, tables, (0, AT, 5, 8))
        tables[1] = (0, 4, [3], [])
        tables[2] = (0, AT, [3, 8], [(4, 3), (9, 8), (10, 3)])
        self.check(program, tables, (0, AT, 4, 3))

    def test_uses_then_holds_then_halves(self):
        rows = [("make", 8, 1, 1), ("into", 9, 8, 0), ("call", 0, 0, (5,)), ("back", 0)]
        program = [("n", "n", 4, rows)]
        tables = [(0, 0, [], []), (0, 2, [8, 10], [(9, 8), (11, 10)])]
        self.check(program, tables, (0, 2, 5, "n"))
        rows[2] = ("call", 0, 0, (0,))
        self.check(program, tables, (0, 2, 10, "h"))
        tables[1] = (0, 2, [8], [(9, 8), (11, 8)])
        self.check(program, tables, (0, 2, 11, 8))
        tables[1] = (0, 2, [8, 10, 11], [])
        self.check(program, tables, (0, 2, 10, "h"))
        tables[1] = (0, 2, [8], [(9, 8)])
        self.check(program, tables, None)

    def test_what_a_table_does_not_tell_is_lost(self):
        rows = [("make", 1, 1, 1), ("into", 2, 1, 0), ("rest",), ("look", 3, 2, 1), ("fetch", 4, 1, 0), ("back", 0)]
        program = [("n", "n", 0, rows)]
        self.check(program, None, None)
        self.check(program, [(0, 0, [], []), (0, 2, [1], [(2, 1)])], None)
        found = self.check(program, [(0, 0, [], []), (0, 2, [1], [])], (0, 3, 2, 1))
        self.assertEqual(found[4], [0, 1, 2, 3])
        self.check(program, [(0, 0, [], []), (0, 2, [], [])], (0, 3, 2, 1))
        rows[3] = ("put", 3, 1)
        self.check(program, [(0, 0, [], []), (0, 2, [], [])], (0, 4, 1, "h"))
        self.check(program, [(0, 0, [], []), (0, 2, [1], [])], None)

    def test_a_table_at_a_row_told_by_ways_that_differ(self):
        rows = [("nil", 1), ("zero", 0, 3), ("put", 1, 1), ("rest",), ("back", 0)]
        self.check([("n", "n", 0, rows)], [(0, 3, [1], [])], (0, 3, 1, "h"))
        self.check([("n", "n", 0, rows)], [(0, 3, [], [])], None)

    def test_the_told_way_is_the_askers_own(self):
        program = [("n", "n", 0, [("zero", 0, 1), ("tell", 5), ("back", 0)])]
        fault(program, None)[4].append(7)
        self.check(program, None, (0, 1, 5, "n"))

    def test_eight_defs_of_forty_rows(self):
        rows = [("copy", 8 + k % 16, 8 + (k + 1) % 16) for k in range(38)] + [("zero", 0, 0), ("jump", 0)]
        program = [("n", "n", 16, [("copy", 8, 0)] + rows[1:])] * 8
        self.check(program, None, None)
        program = program[:7] + [("n", "n", 16, [("nil", 0)] + rows[1:])]
        self.check(program, None, (7, 38, 0, "n"))


class AgainstAllWaysTest(Checks):
    def against(self, program, tables):
        self.assertTrue(tables is None or fit(program, tables))
        expected = slow_fault(program, tables, 1000)
        self.check(program, tables, expected)
        return expected is None

    def test_programs_without_tables(self):
        chance = random.Random(20)
        free = []
        for turn in range(400):
            most = chance.choice([5, 10, 20, 40])
            free.append(self.against(guided_program(chance, 2, most, chance.choice([0.4, 0.95, 1])), None))
        self.assertGreater(min(free.count(True), free.count(False)), 30)

    def test_programs_with_any_tables(self):
        chance = random.Random(201)
        free = []
        for turn in range(300):
            program = guided_program(chance, 2, chance.choice([5, 10, 20, 40]), 1)
            if turn % 2:
                program = mended(chance, program)
            tables = fitting_tables(program, lambda f, at, first, places: any_table(chance, first, places))
            free.append(self.against(program, tables))
        self.assertGreater(min(free.count(True), free.count(False)), 30)

    def test_programs_with_tables_of_what_is_known(self):
        chance = random.Random(202)
        free = []
        for turn in range(300):
            program = mended(chance, guided_program(chance, 2, chance.choice([10, 20, 40]), 0.97))
            free.append(self.against(program, known_tables(chance, program, chance.choice([1, 1, 0.95, 0.8]))))
        self.assertGreater(min(free.count(True), free.count(False)), 30)

    def test_programs_made_without_a_fault(self):
        chance = random.Random(203)
        for turn in range(100):
            program = made_program(chance)
            self.assertTrue(self.against(program, None))
            self.assertTrue(self.against(program, least(program)))
