"""Promises 31 to 33: parcels made, opened and run; and 3 over them."""

import copy
import random
import unittest

from knownholds.carried import carried
from knownholds.errors import Faulty, HoldError, NoTable, NotFormed, NoText
from knownholds.faults import fault
from knownholds.packs import pack
from knownholds.parcels import answer, opened, parcel_of
from knownholds.rests import bare_round, rested, told_rests
from knownholds.runs import run
from knownholds.tables import least
from knownholds.texts import read, shown
from makers import guided_program, known_tables, made_program, mended

GREAT = 10 ** 60 - 1

COUNT = """def n n 1
put 1 1
zero 0 5
tell 0
less 0 0 1
jump 1
back 0"""
COUNT_PARCEL = """def n n 1
put 1 1
rest
zero 0 6
tell 0
less 0 0 1
jump 1
back 0
table 0 1 0"""
# A list of things is made, each with the number; then their numbers are summed by a second def, through spots.
SUM = """def n n 1
nil 8
put 1 1
zero 0 8
make 2 1 1
hang 2 0 8
write 2 0 0
copy 8 2
jump 9
jump 11
less 0 0 1
jump 2
call 3 1 8
back 3
def h n 3
put 8 0
none 0 8
into 1 0 0
rest
look 2 1 0
plus 8 8 2
fetch 0 0 0
jump 1
back 8"""
SUM_PARCEL = SUM + """
table 0 3 256
table 0 11 0
table 1 3 553648129"""
NO_STOPS = """def nn n 0
plus 0 0 1
back 0"""
FAULTY = """def n n 0
tell 0
tell 3
back 0"""


class Checks(unittest.TestCase):
    def refused(self, kind, deed, *handed):
        before = copy.deepcopy(handed)
        with self.assertRaises(HoldError) as caught:
            deed(*handed)
        self.assertIs(type(caught.exception), kind)
        self.assertEqual(handed, before)
        return caught.exception

    def faulty(self, f, at, p, deed, *handed):
        error = self.refused(Faulty, deed, *handed)
        self.assertEqual((error.f, error.at, error.p), (f, at, p))


class MadeTest(Checks):
    def test_sign_by_sign(self):
        self.assertEqual(parcel_of(COUNT), COUNT_PARCEL)
        self.assertEqual(parcel_of(SUM), SUM_PARCEL)
        self.assertEqual(parcel_of(NO_STOPS), NO_STOPS)
        self.assertEqual(parcel_of("def - n 0\njump 0"), "def - n 0\nrest\njump 0\ntable 0 0 0")
        self.assertEqual(parcel_of("def - n 0\nmake 0 1 1\nrest\nnone 0 3\nput 0 1\nback 0"),
                         "def - n 0\nmake 0 1 1\nrest\nnone 0 3\nput 0 1\nback 0\ntable 0 0 0\ntable 0 1 1")

    def test_all_places_at_a_stop(self):
        lines = ["def n n 16"] + [f"nil {p}" for p in range(1, 24)] + ["rest"]
        lines += [f"same {p} {p + 1} {25 + p // 2}" for p in range(1, 23, 2)] + ["none 23 36", "back 0"]
        told = parcel_of("\n".join(lines))
        self.assertEqual(told, "\n".join(lines) + "\ntable 0 23 16777214")

    def test_a_parcels_number_beyond_sixty_figures(self):
        lines = ["def - n 16", "make 23 0 1"] + [f"into {s} 23 0" for s in range(18)] + ["rest"]
        lines += [f"look 22 {s} 23" for s in range(17)] + ["look 22 17 23", "back 22"]
        self.assertEqual(len(lines) - 1, 1 + 18 + 1 + 18 + 1)
        number = 2 ** 23 + 2 ** 24 * sum([(s * 32 + 24) * 1024 ** s for s in range(18)])
        self.assertGreater(number, 10 ** 60)
        told = parcel_of("\n".join(lines))
        self.assertEqual(told, "\n".join(lines + ["table 0 0 0", f"table 0 19 {number}"]))
        self.assertEqual(opened(told)[1], [(0, 0, [], []), (0, 19, [23], [(s, 23) for s in range(18)])])
        self.assertEqual(answer(told, [], 400, [True] * 2, GREAT), "/ back 0")

    def test_no_text(self):
        for text in ["", "\n", COUNT + "\n", "\n" + COUNT, COUNT_PARCEL, "put 0 1", COUNT.replace("tell 0", "tell  0"),
                     COUNT.replace("tell 0", "tell 00"), COUNT.replace("tell", "sing"), COUNT + "\ntable 0 1 0",
                     "table 0 0 0"]:
            self.refused(NoText, parcel_of, text)

    def test_not_formed(self):
        for text in ["def n n 0", "def n n 0\ntell 0", "def h n 0\nback 0", "def n n 17\nback 0", "def n n 0\nback 8",
                     "def n n 0\njump 1", "def n n 0\n" + "tell 0\n" * 40 + "back 0"]:
            self.refused(NotFormed, parcel_of, text)

    def test_more_than_forty_rows_with_the_rests(self):
        for many in [38, 39]:
            lines = ["def n n 0"] + ["tell 0"] * many + ["jump 0"]
            if many == 39:
                self.refused(NotFormed, parcel_of, "\n".join(lines))
            else:
                fresh = lines[:1] + ["rest"] + lines[1:] + ["table 0 0 0"]
                self.assertEqual(parcel_of("\n".join(lines)), "\n".join(fresh))
        # Forty rows and no rests are let by; so is a second def of forty rows.
        lines = ["def n n 0"] + ["tell 0"] * 39 + ["back 0"]
        self.assertEqual(parcel_of("\n".join(lines * 2)), "\n".join(lines * 2))
        short = ["def n n 0", "back 0"]
        self.refused(NotFormed, parcel_of, "\n".join(short + ["def n n 0"] + ["tell 0"] * 39 + ["jump 0"]))

    def test_a_fault(self):
        self.faulty(0, 1, 3, parcel_of, FAULTY)
        self.faulty(1, 1, 3, parcel_of, NO_STOPS + "\n" + FAULTY)
        # Told of the read program, not of the one with its rests.
        self.faulty(0, 1, 3, parcel_of, FAULTY.replace("back 0", "jump 0"))

    def test_refusals_in_their_order(self):
        self.refused(NoText, parcel_of, FAULTY + "\ndef n n 17\nback  0")
        self.refused(NotFormed, parcel_of, FAULTY + "\ndef n n 17\nback 0")
        self.refused(NotFormed, parcel_of, FAULTY + "\ndef n n 0\n" + "tell 0\n" * 39 + "jump 0")
        self.refused(NotFormed, parcel_of, "def n n 0\n" + "tell 7\n" * 39 + "jump 0")
        self.faulty(0, 0, 7, parcel_of, "def n n 0\n" + "tell 7\n" * 38 + "jump 0")


class OpenedTest(Checks):
    def check(self, parcel, program, tables):
        told = opened(parcel)
        self.assertIs(type(told), tuple)
        self.assertEqual(told, (program, tables))
        self.assertEqual([type(part) for part in told], [list, list])
        lists = [told[0], told[1]] + [one[3] for one in told[0]]
        for table in told[1]:
            self.assertIs(type(table), tuple)
            lists += [table[2], table[3]]
            self.assertTrue(all([type(half) is tuple for half in table[3]]))
        self.assertEqual(len(set([id(one) for one in lists])), len(lists))
        for one in lists:
            one.append(7)
        self.assertEqual(opened(parcel), (program, tables))

    def test_what_was_made(self):
        for text in [COUNT, SUM, NO_STOPS]:
            program = read(text)
            fresh = rested(program, [told_rests(one[3]) for one in program])
            self.check(parcel_of(text), fresh, least(fresh))
        self.check(SUM_PARCEL, read(SUM_PARCEL.split("\ntable")[0]), [
            (0, 3, [8], []), (0, 11, [], []), (1, 3, [0], [(1, 0)])])

    def test_no_tables_where_there_are_no_stops(self):
        self.check(NO_STOPS, read(NO_STOPS), [])
        self.refused(NotFormed, opened, NO_STOPS + "\ntable 0 0 0")

    def test_any_rests_and_tables_that_tell_more(self):
        self.check("def - n 0\njump 0", [("", "n", 0, [("jump", 0)])], [])
        self.check("def - n 0\nrest\nrest\njump 0\ntable 0 0 0\ntable 0 1 0",
                   [("", "n", 0, [("rest",), ("rest",), ("jump", 0)])], [(0, 0, [], []), (0, 1, [], [])])
        text = "def n n 0\nmake 1 0 1\ninto 2 1 0\nrest\nback 0"
        for holds, halves in [([], []), ([1], []), ([1], [(2, 1)])]:
            self.check(f"{text}\ntable 0 0 0\ntable 0 2 {pack(holds, halves)}", read(text),
                       [(0, 0, [], []), (0, 2, holds, halves)])

    def test_no_text(self):
        for parcel in ["", "\n", "table 0 1 0", "\ntable 0 1 0", COUNT_PARCEL + "\n", "\n" + COUNT_PARCEL,
                       COUNT_PARCEL.replace("\ntable", "\n\ntable"), COUNT_PARCEL.replace("tell 0", "tell")]:
            self.refused(NoText, opened, parcel)

    def test_rows_out_of_their_order(self):
        lines = COUNT_PARCEL.split("\n")
        for k in range(len(lines) - 1):
            self.refused(NoText, opened, "\n".join(lines[:k] + lines[-1:] + lines[k:-1]))
        self.refused(NoText, opened, COUNT_PARCEL + "\nrest")
        self.refused(NoText, opened, COUNT_PARCEL + "\n" + COUNT)
        self.refused(NoText, opened, COUNT_PARCEL + "\n" + COUNT_PARCEL)
        self.refused(NoText, opened, COUNT_PARCEL + "\nback 0\ntable 0 1 0")

    def test_table_rows_of_other_forms(self):
        for row in ["table", "table ", "table 0", "table 0 1", "table 0 1 ", "table 0 1 0 ", "table 0 1 0 0",
                    " table 0 1 0", "table  0 1 0", "table 0  1 0", "table 0 1  0", "table -0 1 0", "table 0 -0 0",
                    "table 0 1 -0",
                    "table 00 1 0", "table 0 01 0", "table 0 1 00", "table +0 1 0", "table 0 +1 0", "table 0 1 +0",
                    "table 0 1 a", "table a 1 0", "table 0 b 0", "table 0 1 1e1", "table 0 1 1_0", "table 0 1 -",
                    "table - 1 0", "Table 0 1 0", "tables 0 1 0", "tabl 0 1 0", "table,0 1 0", "table 0 1 0x0",
                    "table 0 1 0\n", "table 0 1 1.0", "table 0 1 (0)", "table"]:
            with self.subTest(row=row):
                self.refused(NoText, opened, COUNT_PARCEL.replace("table 0 1 0", row))

    def test_how_many_figures(self):
        for row in [f"table {GREAT} 1 0", f"table 0 {GREAT} 0", f"table -{GREAT} 1 0", f"table 0 -{GREAT} 0"]:
            self.refused(NotFormed, opened, COUNT_PARCEL.replace("table 0 1 0", row))
        more = GREAT + 1
        for row in [f"table {more} 1 0", f"table 0 {more} 0", f"table -{more} 1 0", f"table 0 -{more} 0"]:
            self.refused(NoText, opened, COUNT_PARCEL.replace("table 0 1 0", row))
        for number in [10 ** 60, 10 ** 299, 10 ** 300 - 1, -(10 ** 300 - 1), -1]:
            self.refused(NoTable, opened, COUNT_PARCEL.replace("table 0 1 0", f"table 0 1 {number}"))
        for number in [10 ** 300, -(10 ** 300)]:
            self.refused(NoText, opened, COUNT_PARCEL.replace("table 0 1 0", f"table 0 1 {number}"))
        # In the program sixty figures are the most.
        self.refused(NoText, opened, COUNT_PARCEL.replace("put 1 1", f"put 1 {GREAT + 1}"))
        self.assertEqual(opened(COUNT_PARCEL.replace("put 1 1", f"put 1 {GREAT}"))[0][0][3][0], ("put", 1, GREAT))

    def test_a_program_that_is_not_formed(self):
        for old, new in [("def n n 1", "def n n 17"), ("def n n 1", "def h n 1"), ("jump 1", "jump 7"),
                         ("tell 0", "tell 9"), ("back 0", "tell 0")]:
            self.refused(NotFormed, opened, COUNT_PARCEL.replace(old, new))
        self.refused(NotFormed, opened, "def n n 0")
        self.refused(NotFormed, opened, "def n n 0\ntable 0 0 0")
        self.refused(NotFormed, opened, "def n n 0\n" + "rest\n" * 40 + "back 0\n"
                     + "\n".join([f"table 0 {at} 0" for at in range(40)]))

    def test_a_number_that_packs_no_table(self):
        for number in [-1, 2 ** 24, 1 + 1 * 2 ** 24, 1 + 2 ** 34, 2 + (33 + 33 * 1024) * 2 ** 24]:
            self.refused(NoTable, opened, COUNT_PARCEL.replace("table 0 1 0", f"table 0 1 {number}"))

    def test_tables_that_do_not_fit(self):
        for rows in ["", "\ntable 0 1 0\ntable 0 1 0", "\ntable 0 2 0", "\ntable 1 1 0", "\ntable -1 1 0",
                     "\ntable 0 -1 0", "\ntable 0 1 512", "\ntable 0 0 0\ntable 0 1 0", "\ntable 0 1 0\ntable 0 2 0"]:
            with self.subTest(rows=rows):
                self.refused(NotFormed, opened, COUNT_PARCEL.replace("\ntable 0 1 0", rows))
        # A box at a call.
        self.refused(NotFormed, opened, SUM_PARCEL.replace("table 0 11 0", "table 0 11 1"))
        turned = SUM_PARCEL.replace("table 0 3 256\ntable 0 11 0", "table 0 11 0\ntable 0 3 256")
        self.refused(NotFormed, opened, turned)

    def test_a_fault_of_the_program_with_its_tables(self):
        self.faulty(0, 1, 3, opened, FAULTY)
        self.faulty(0, 1, 0, opened, COUNT_PARCEL.replace("table 0 1 0", "table 0 1 1"))
        self.faulty(0, 1, 8, opened, COUNT_PARCEL.replace("table 0 1 0", "table 0 1 256"))
        self.faulty(1, 4, 1, opened, SUM_PARCEL.replace("553648129", "1"))
        self.faulty(0, 4, 8, opened, SUM_PARCEL.replace("table 0 3 256", "table 0 3 0"))

    def test_refusals_in_their_order(self):
        not_formed = COUNT_PARCEL.replace("def n n 1", "def h n 1")
        for parcel in [not_formed, COUNT_PARCEL, FAULTY.replace("back", "rest\nback") + "\ntable 0 1 0"]:
            self.refused(NoText, opened, parcel.replace("table 0 1 0", "table 0 1 00"))
            self.refused(NoText, opened, parcel.replace("table 0 1 0", "table 0 1 -1\ntable 0 1 00"))
        self.refused(NotFormed, opened, not_formed.replace("table 0 1 0", "table 0 1 -1"))
        self.refused(NotFormed, opened, not_formed)
        self.refused(NoTable, opened, COUNT_PARCEL.replace("table 0 1 0", "table 0 9 0\ntable 0 1 -1"))
        self.refused(NoTable, opened, COUNT_PARCEL + "\ntable 7 7 -1")
        self.refused(NoTable, opened, FAULTY + "\ntable 0 0 -1")
        self.refused(NotFormed, opened, FAULTY + "\ntable 0 0 0")
        self.faulty(0, 1, 3, opened, FAULTY)


class AnswerTest(Checks):
    def test_back(self):
        self.assertEqual(answer(COUNT_PARCEL, [3], 400, [], 1), "3 2 1 / back 0")
        self.assertEqual(answer(COUNT_PARCEL, [0], 400, [], 1), "/ back 0")
        self.assertEqual(answer(NO_STOPS, [-9, 2], 400, [True], 5), "/ back -7")
        self.assertEqual(answer("def n n 0\ntell 0\nback 0", [-GREAT], 2, [], 1), f"-{GREAT} / back -{GREAT}")

    def test_far(self):
        self.assertEqual(answer(COUNT_PARCEL, [3], 0, [], 1), "/ far 0 0")
        self.assertEqual(answer(COUNT_PARCEL, [3], 4, [True] * 9, 1), "3 / far 0 4")
        self.assertEqual(answer(COUNT_PARCEL, [-3], 400, [True] * 400, GREAT).split(" ")[-4:], ["/", "far", "0", "5"])

    def test_nil_and_miss_and_deep(self):
        self.assertEqual(answer("def - n 0\nnil 0\nread 1 0 0\nback 1", [], 9, [], 1), "/ nil 0 1")
        self.assertEqual(answer("def n n 0\ntell 0\nmake 1 0 0\nread 1 1 0\nback 1\ntable 0 1 0", [7], 9, [True], 1),
                         "7 / miss 0 2")
        self.assertEqual(answer("def - n 0\ncall 0 0\nback 0\ntable 0 0 0", [], 99, [], 1), "/ deep 0 0")

    def test_carted(self):
        for when in [[], [True] * 400, [False, True] * 200, [True, False, False] * 100]:
            for start in [1, 77, GREAT]:
                self.assertEqual(answer(SUM_PARCEL, [5], 400, when, start), "/ back 15")

    def test_too_few_and_too_many_numbers(self):
        for inputs in [[], [1, 2], [1] * 8, [1] * 400]:
            self.refused(NotFormed, answer, COUNT_PARCEL, inputs, 400, [], 1)
        self.refused(NotFormed, answer, NO_STOPS, [1], 400, [], 1)
        self.refused(NotFormed, answer, NO_STOPS, [1, 2, 3], 400, [], 1)
        self.refused(NotFormed, answer, "def - n 0\njump 0", [0], 400, [], 1)
        self.refused(NotFormed, answer, COUNT_PARCEL, [], 0, [], 1)

    def test_behind_the_refusals_of_opening(self):
        for inputs in [[], [1], [1, 2]]:
            self.refused(NoText, answer, COUNT_PARCEL + "\n", inputs, 400, [], 1)
            self.refused(NotFormed, answer, COUNT_PARCEL.replace("\ntable 0 1 0", ""), inputs, 400, [], 1)
            self.refused(NoTable, answer, COUNT_PARCEL.replace("table 0 1 0", "table 0 1 -1"), inputs, 400, [], 1)
            self.faulty(0, 1, 3, answer, FAULTY, inputs, 400, [], 1)


class PromiseTest(Checks):
    def programs(self, chance, many):
        for turn in range(many):
            if turn % 4 == 0:
                yield made_program(chance)
            elif turn % 4 == 1:
                yield mended(chance, guided_program(chance, 3, chance.choice([10, 20, 30]), 0.97))
            elif turn % 4 == 2:
                yield guided_program(chance, 2, 10, 1)
            else:
                rows = [chance.choice([("tell", 0), ("zero", 0, at)]) for at in range(37)]
                yield [("n", "n", 0, rows + [("jump", 0)])]

    def test_made_opened_and_answered(self):
        chance = random.Random(33)
        kinds = []
        for program in self.programs(chance, 300):
            text = shown(program)
            rests = [told_rests(one[3]) for one in program]
            fresh = rested(program, rests)
            found = fault(program, None)
            if max([len(one[3]) for one in fresh]) > 40:
                self.refused(NotFormed, parcel_of, text)
                kinds.append("long")
            elif found is not None:
                self.faulty(found[0], found[1], found[2], parcel_of, text)
                kinds.append("faulty")
            else:
                self.check_parcel(chance, program, rests, fresh)
                kinds.append("good")
        for kind in ["long", "faulty", "good"]:
            self.assertGreater(kinds.count(kind), 5, kind)

    def check_parcel(self, chance, program, rests, fresh):
        parcel = parcel_of(shown(program))
        self.assertEqual(opened(parcel), (fresh, least(fresh)))
        self.assertIsNone(fault(fresh, least(fresh)))
        self.assertTrue(all([bare_round(one[3], []) is None for one in fresh]))
        more = known_tables(chance, fresh, 1)
        wider = "\n".join([shown(fresh)] + [f"table {f} {at} {pack(holds, halves)}" for f, at, holds, halves in more])
        self.assertEqual(opened(wider), (fresh, more))
        inputs = [chance.randrange(-1, 3) for letter in program[0][0]]
        when = [chance.random() < 0.5 for k in range(400)]
        for start in [1, GREAT]:
            end, news = run(fresh, inputs, 300, 1)
            told = " ".join([str(one) for one in news] + ["/"] + [str(part) for part in end])
            self.assertEqual(answer(parcel, inputs, 300, when, start), told)
            self.assertEqual(answer(wider, inputs, 300, when, start), told)
            self.assertEqual(carried(fresh, more, inputs, 300, when, start), (end, news))
        # The parcel tells what the read program tells, at the rows where these lie then.
        end, news = run(program, inputs, 190, 1)
        if end[0] in ("nil", "miss", "deep"):
            end = (end[0], end[1], end[2] + len([at for at in rests[end[1]] if at <= end[2]]))
        if end[0] != "far":
            told = " ".join([str(one) for one in news] + ["/"] + [str(part) for part in end])
            self.assertEqual(answer(parcel, inputs, 400, when, 1), told)
