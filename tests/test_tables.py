"""Promises 23 and 24: what is needed across a stop, the least tables; 3 as far as it speaks of these and of faults."""

import copy
import random
import unittest

from knownholds.faults import fault, fit
from knownholds.kinds import kinds_of
from knownholds.tables import least
from makers import fitting_tables, guided_program, kinds_along, known_tables, made_program, mended, slow_fault
from makers import slow_journeys, slow_kinds, slow_nexts, slow_travels, slow_uses


# The least tables as promise 24 tells them, by all journeys.
def slow_least(program):
    def wish(f, at, first, places):
        rows = program[f][3]
        many = slow_kinds(program, f, None, 1000)[at]
        if not many:
            return [], []
        kinds = [column[0] if len(set(column)) == 1 else None for column in zip(*many)]
        across = [p for p in range(places) if any([slow_uses(program, f, t, q) for place in slow_travels(rows[at], p)
                                                   for t, q in slow_journeys(program, f, at + 1, place)])]
        halves = [(p, kinds[p]) for p in across if isinstance(kinds[p], int)]
        return [p for p in across if kinds[p] == "h"] + [b for s, b in halves], halves

    return fitting_tables(program, wish)


class Checks(unittest.TestCase):
    def check(self, program, expected):
        self.assertIsNone(fault(program, None))
        before = copy.deepcopy(program)
        told = least(program)
        self.assertEqual(told, expected)
        self.assertIs(type(told), list)
        lists = []
        for table in told:
            self.assertIs(type(table), tuple)
            self.assertEqual([type(part) for part in table], [int, int, list, list])
            self.assertTrue(all([type(half) is tuple for half in table[3]]))
            lists += [table[2], table[3]]
        self.assertEqual(len(set([id(one) for one in lists])), len(lists))
        self.assertTrue(fit(program, told))
        self.assertIsNone(fault(program, told))
        self.assertEqual(program, before)
        for one in lists:
            one.append(9)
        self.assertEqual(least(program), expected)


class LeastTest(Checks):
    def test_a_program_without_stops(self):
        self.check([("n", "n", 0, [("tell", 0), ("back", 0)])], [])

    def test_numbers_are_not_told(self):
        self.check([("n", "n", 1, [("rest",), ("back", 0)])], [(0, 0, [], [])])

    def test_across_a_rest(self):
        rows = [("nil", 1), ("nil", 2), ("rest",), ("fetch", 3, 1, 0), ("back", 0)]
        self.check([("n", "n", 1, rows)], [(0, 2, [1], [])])

    def test_what_is_used_ahead_of_the_stop_alone(self):
        rows = [("nil", 1), ("fetch", 3, 1, 0), ("rest",), ("back", 0)]
        self.check([("n", "n", 1, rows)], [(0, 2, [], [])])

    def test_across_a_make_with_its_own_p(self):
        rows = [("nil", 1), ("nil", 2), ("make", 1, 1, 1), ("same", 1, 2, 4), ("back", 0)]
        self.check([("n", "n", 1, rows)], [(0, 2, [2], [])])

    def test_a_make_in_a_round(self):
        rows = [("nil", 1), ("make", 2, 1, 0), ("hang", 2, 0, 1), ("copy", 1, 2), ("zero", 0, 1), ("back", 0)]
        self.check([("n", "n", 0, rows)], [(0, 1, [1], [])])

    def test_across_a_call_with_its_own_p_and_qs(self):
        program = [("n", "n", 3, [("nil", 8), ("nil", 9), ("nil", 10), ("nil", 1), ("call", 8, 1, (1, 10)),
                                  ("same", 8, 9, 6), ("put", 0, 4), ("back", 0)]),
                   ("hh", "h", 0, [("back", 0)])]
        self.check(program, [(0, 4, [9], [])])
        program[0][3][5] = ("same", 8, 10, 6)
        self.check(program, [(0, 4, [10], [])])

    def test_a_call_whose_p_is_among_its_qs(self):
        program = [("n", "n", 2, [("nil", 8), ("call", 8, 1, (8, 8)), ("none", 8, 3), ("put", 0, 1), ("back", 0)]),
                   ("hh", "h", 0, [("rest",), ("back", 0)])]
        self.check(program, [(0, 1, [], []), (1, 0, [0], [])])

    def test_the_waiting_frame_tells_words_alone(self):
        program = [("", "n", 2, [("make", 0, 1, 1), ("copy", 8, 0), ("into", 9, 8, 0), ("call", 1, 1, (0,)),
                                 ("look", 0, 9, 8), ("back", 0)]),
                   ("h", "n", 0, [("rest",), ("read", 0, 0, 0), ("back", 0)])]
        self.check(program, [(0, 0, [], []), (0, 3, [8], [(9, 8)]), (1, 0, [0], [])])

    def test_halves_whose_b_no_other_row_needs(self):
        rows = [("make", 1, 1, 1), ("into", 2, 1, 0), ("rest",), ("look", 3, 2, 1), ("back", 3)]
        self.check([("", "n", 0, rows)], [(0, 0, [], []), (0, 2, [1], [(2, 1)])])
        rows = [("make", 2, 1, 1), ("into", 1, 2, 0), ("rest",), ("lay", 1, 2, 0), ("back", 0)]
        self.check([("n", "n", 0, rows)], [(0, 0, [], []), (0, 2, [2], [(1, 2)])])

    def test_a_half_whose_b_is_needed_too(self):
        rows = [("make", 1, 1, 1), ("into", 2, 1, 0), ("rest",), ("look", 3, 2, 1), ("read", 3, 1, 0), ("back", 3)]
        self.check([("", "n", 0, rows)], [(0, 0, [], []), (0, 2, [1], [(2, 1)])])

    def test_several_halves_of_one_thing_and_of_several(self):
        rows = [("make", 8, 0, 3), ("into", 0, 8, 0), ("into", 9, 8, 1), ("make", 3, 0, 1), ("into", 2, 3, 0),
                ("rest",), ("look", 4, 0, 8), ("look", 5, 9, 8), ("look", 6, 2, 3), ("back", 6)]
        self.check([("", "n", 2, rows)], [(0, 0, [], []), (0, 3, [8], [(0, 8), (9, 8)]),
                                          (0, 5, [3, 8], [(0, 8), (2, 3), (9, 8)])])

    def test_a_spot_that_is_not_needed(self):
        rows = [("make", 1, 1, 1), ("into", 2, 1, 0), ("look", 3, 2, 1), ("rest",), ("back", 3)]
        self.check([("", "n", 0, rows)], [(0, 0, [], []), (0, 3, [], [])])

    def test_copies_behind_the_stop(self):
        rows = [("make", 1, 1, 1), ("into", 2, 1, 0), ("rest",), ("copy", 4, 2), ("copy", 5, 4), ("look", 3, 5, 1),
                ("back", 3)]
        self.check([("", "n", 0, rows)], [(0, 0, [], []), (0, 2, [1], [(2, 1)])])

    def test_a_copy_of_a_hold(self):
        rows = [("nil", 1), ("rest",), ("copy", 2, 1), ("rest",), ("copy", 3, 2), ("none", 3, 6), ("back", 0)]
        self.check([("n", "n", 0, rows)], [(0, 1, [1], []), (0, 3, [2], [])])

    def test_a_stop_to_which_no_way_comes(self):
        rows = [("nil", 1), ("jump", 4), ("rest",), ("make", 2, 0, 0), ("none", 1, 5), ("back", 0)]
        self.check([("n", "n", 0, rows)], [(0, 2, [], []), (0, 3, [], [])])

    def test_a_spot_needed_across_a_stop_to_which_ways_with_other_kinds_come(self):
        # The ways differ in what 4 is, and 4 is not needed; in 3 they are at one.
        rows = [("make", 1, 0, 1), ("make", 2, 0, 1), ("into", 3, 1, 0), ("into", 4, 1, 0), ("zero", 0, 6),
                ("into", 4, 2, 0), ("rest",), ("look", 5, 3, 1), ("back", 5)]
        program = [("n", "n", 0, rows)]
        self.check(program, [(0, 0, [], []), (0, 1, [1], []), (0, 6, [1], [(3, 1)])])
        self.assertIsNone(kinds_of(program, 0, None)[6][4])
        # Where 4 is needed the program has a fault.
        rows[7] = ("look", 5, 4, 1)
        self.assertEqual(fault(program, None)[:4], (0, 7, 4, 1))

    def test_a_number_along_one_way_and_a_hold_along_another(self):
        rows = [("nil", 1), ("nil", 2), ("zero", 0, 4), ("put", 1, 1), ("rest",), ("nil", 1), ("same", 1, 2, 7),
                ("back", 0)]
        self.check([("n", "n", 0, rows)], [(0, 4, [2], [])])

    def test_needed_along_one_of_two_ways(self):
        rows = [("nil", 1), ("rest",), ("zero", 0, 4), ("back", 0), ("none", 1, 5), ("rest",), ("back", 0)]
        self.check([("n", "n", 0, rows)], [(0, 1, [1], []), (0, 5, [], [])])

    def test_stops_of_all_defs_in_order(self):
        rest = [("rest",), ("none", 0, 2), ("rest",), ("back", 0)]
        program = [("n", "n", 0, [("rest",), ("back", 0)])] + [("h", "h", 0, rest)] * 7
        tables = [(0, 0, [], [])]
        for f in range(1, 8):
            tables += [(f, 0, [0], []), (f, 2, [0], [])]
        self.check(program, tables)

    def test_all_places(self):
        rows = [("nil", p) for p in range(2, 24)] + [("rest",)]
        rows += [("none", p, 0) for p in range(23, 7, -1)] + [("jump", 0)]
        self.check([("", "n", 16, rows)], [(0, 22, list(range(8, 24)), [])])


class PromiseTest(Checks):
    def programs(self, chance, many):
        for turn in range(many):
            if turn % 4 == 3:
                program = made_program(chance)
            else:
                program = mended(chance, guided_program(chance, 3, chance.choice([8, 15, 25, 40]), 0.97))
            yield program

    def test_the_least_tables_as_they_are_told(self):
        for program in self.programs(random.Random(24), 80):
            self.check(program, slow_least(program))

    def test_the_least_tables_fit_and_have_no_fault(self):
        halves = 0
        for program in self.programs(random.Random(31), 300):
            tables = least(program)
            self.assertTrue(fit(program, tables))
            self.assertIsNone(fault(program, tables))
            halves += sum([len(table[3]) for table in tables])
        self.assertGreater(halves, 200)

    def test_each_place_in_them_has_a_way_to_a_use(self):
        for program in self.programs(random.Random(32), 60):
            for f, at, holds, halves in least(program):
                used = [p for p in range(8 + program[f][2]) if any([
                    slow_uses(program, f, t, q) for place in slow_travels(program[f][3][at], p)
                    for t, q in slow_journeys(program, f, at + 1, place)])]
                for p in holds:
                    self.assertTrue(p in used or [s for s, b in halves if b == p and s in used])
                for s, b in halves:
                    self.assertIn(s, used)

    # Each fitting table that has all but one of the places; at stops to which a way comes it has a fault.
    def test_nothing_of_them_can_be_left_out(self):
        chance = random.Random(33)
        lost = 0
        for program in self.programs(chance, 120):
            tables = least(program)
            for k, (f, at, holds, halves) in enumerate(tables):
                for p in holds:
                    less = ([q for q in holds if q != p], [half for half in halves if half[1] != p])
                    self.check_lost(program, tables[:k] + [(f, at) + less] + tables[k + 1:])
                    lost += 1
                for s, b in halves:
                    self.check_lost(program, tables[:k] + [(f, at, holds, [half for half in halves if half[0] != s])]
                                    + tables[k + 1:])
                    lost += 1
        self.assertGreater(lost, 500)

    def check_lost(self, program, tables):
        self.assertTrue(fit(program, tables))
        found = fault(program, tables)
        self.assertIsNotNone(found)
        f, at, p, due, way = found
        self.assertNotEqual(kinds_along(program, f, way, tables)[p], due)
        self.assertEqual((way[0], way[-1]), (0, at))
        self.assertTrue(all([after in slow_nexts(program[f][3], before) for before, after in zip(way, way[1:])]))

    def test_tables_without_a_fault_have_all_that_the_least_have(self):
        chance = random.Random(34)
        kept = 0
        for program in self.programs(chance, 200):
            small = least(program)
            tables = known_tables(chance, program, chance.choice([1, 0.97, 0.9]))
            found = fault(program, tables)
            self.assertEqual(found and found[:4], slow_fault(program, tables, 1000))
            missing = [k for k in range(len(small)) if [p for p in small[k][2] if p not in tables[k][2]]
                       or [half for half in small[k][3] if half not in tables[k][3]]]
            if found is None:
                self.assertEqual(missing, [])
                kept += sum([len(table[2]) + len(table[3]) for table in small])
        self.assertGreater(kept, 200)

    def test_none_just_where_no_way_of_bounded_length_has_a_fault(self):
        chance = random.Random(35)
        free = 0
        for turn in range(200):
            program = guided_program(chance, 2, 6, chance.choice([0.5, 0.97, 1]))
            bare = not self.any_fault_within(program, 14)
            self.assertEqual(fault(program, None) is None, bare)
            free += bare
        self.assertGreater(free, 30)
        self.assertLess(free, 170)

    # Goes each way of at most so many rows by itself.
    def any_fault_within(self, program, most):
        for f in range(len(program)):
            ways = [[0]]
            for length in range(most):
                for way in ways:
                    kinds = kinds_along(program, f, way, None)
                    if not self.fits_row(program, f, way[-1], kinds):
                        return True
                ways = [way + [t] for way in ways for t in sorted(set(slow_nexts(program[f][3], way[-1])))]
        return False

    def fits_row(self, program, f, at, kinds):
        takes, gives, words, rows = program[f]
        row = rows[at]
        letters = {"plus": "  nn", "less": "  nn", "fetch": "  h ", "read": "  h ", "hang": " h h", "write": " h n",
                   "into": "  h ", "zero": " n ", "none": " h ", "same": " hh ", "tell": " n", "back": " " + gives,
                   "lay": "   n"}.get(row[0], "")
        for part, letter in enumerate(letters):
            if letter != " " and kinds[row[part]] != letter:
                return False
        if row[0] == "look" and kinds[row[2]] != row[3] or row[0] == "lay" and kinds[row[1]] != row[2]:
            return False
        return row[0] != "call" or [kinds[q] for q in row[3]] == list(program[row[2]][0])
