"""Promises 7, 8 and 10: when a program is formed."""

import copy
import unittest

from knownholds.forms import formed

GREAT = 10 ** 60 - 1

# What the parts of each word's row are: p place, n number, k from 0 to 9, t row, f def, q the q's.
TABLE = {
    "put": "pn", "nil": "p", "copy": "pp", "plus": "ppp", "less": "ppp", "make": "pkk", "fetch": "ppk",
    "read": "ppk", "hang": "pkp", "write": "pkp", "into": "ppk", "look": "ppp", "lay": "ppp", "jump": "t",
    "zero": "pt", "none": "pt", "same": "ppt", "call": "pfq", "back": "p", "tell": "p", "rest": "",
}
MANY_ROWS = 6
# What the three defs take; that of def 0 is of letters n alone.
TAKES = ["nn", "hnhnhn", ""]


# A program of three defs, one of which has the row that is tried amid its own.
def program_with(row, f, words):
    program = []
    for g in range(3):
        rows = [("rest",)] * (MANY_ROWS - 1) + [("back", 0)]
        if g == f:
            rows[2] = row
        program.append((TAKES[g], "n" if g != 1 else "h", words if g == f else 2, rows))
    return program


def one_def(rows):
    return [("", "n", 0, rows)]


# A row of the word with each part an ordinary one; a call is of def 0.
def plain_row(word):
    plain = {"p": 1, "n": 5, "k": 3, "t": 2, "f": 0, "q": (1, 2)}
    return (word,) + tuple([plain[kind] for kind in TABLE[word]])


def with_part(row, part, value):
    return row[:part] + (value,) + row[part + 1:]


class FormedTest(unittest.TestCase):
    def check(self, program, due):
        before = copy.deepcopy(program)
        self.assertIs(formed(program), due, program)
        self.assertEqual(program, before)

    def check_row(self, row, due, words=3):
        for f in range(3):
            self.check(program_with(row, f, words), due)


class RowsTest(FormedTest):
    def test_there_are_twenty_one_words(self):
        self.assertEqual(len(TABLE), 21)

    def test_each_word_is_formed(self):
        for word in TABLE:
            with self.subTest(word=word):
                self.check_row(plain_row(word), True)

    def test_each_part_at_its_bound_beyond_and_below_zero(self):
        for word in TABLE:
            for words in [0, 1, 16]:
                greatest = {"p": 7 + words, "k": 9, "t": MANY_ROWS - 1, "f": 2}
                for part, kind in enumerate(TABLE[word], start=1):
                    if kind in greatest and not (word == "call" and kind == "f"):
                        for value in [0, greatest[kind]]:
                            self.check_row(with_part(plain_row(word), part, value), True, words)
                        for value in [-1, -2, -GREAT, greatest[kind] + 1, greatest[kind] + 2, GREAT]:
                            with self.subTest(word=word, part=part, value=value):
                                self.check_row(with_part(plain_row(word), part, value), False, words)

    def test_the_number_of_put_has_no_bound(self):
        for number in [0, 1, -1, 7, 8, 24, GREAT, -GREAT]:
            self.check_row(("put", 7, number), True)

    def test_a_part_more_and_less(self):
        for word in TABLE:
            row = plain_row(word)
            with self.subTest(word=word):
                for more in [0, 1, (), (0,), (1, 2)]:
                    self.check_row(row + (more,), False)
                    self.check_row(row + (more, more), False)
                self.check_row(row[:-1], False)
                if len(row) > 2:
                    self.check_row(row[:-2], False)
                    self.check_row(row[:1], False)

    def test_a_tuple_where_a_number_stands(self):
        for word in TABLE:
            for part, kind in enumerate(TABLE[word], start=1):
                if kind != "q":
                    for value in [(), (0,), (1, 2)]:
                        with self.subTest(word=word, part=part, value=value):
                            self.check_row(with_part(plain_row(word), part, value), False)

    def test_a_number_where_the_qs_stand(self):
        for f in range(3):
            for number in [-1, 0, 1, 2, 6, GREAT]:
                self.check_row(("call", 1, f, number), False)
        self.check_row(("call", 1, 0, 1, 2), False)

    def test_words_that_are_none(self):
        for word in ["", "def", "table", "Put", "PUT", "put ", " put", "puts", "pu", "p", "-", "0", "rests", "goto"]:
            for parts in [(), (1,), (1, 2), (1, 2, 3), (1, 0, (1, 2))]:
                with self.subTest(word=word, parts=parts):
                    self.check_row((word,) + parts, False)


class PlacesTest(FormedTest):
    def test_places_from_8_on_with_and_without_words(self):
        for words in [0, 1, 2, 8, 15, 16]:
            for place in range(0, 30):
                due = place < 8 + words
                for row in [("nil", place), ("copy", place, 0), ("copy", 0, place), ("zero", place, 0),
                            ("lay", 1, 2, place), ("look", 1, 2, place), ("lay", 1, place, 2), ("tell", place)]:
                    with self.subTest(words=words, row=row):
                        self.check_row(row, due, words)

    def test_each_def_has_words_of_its_own(self):
        program = [
            ("", "n", 1, [("copy", 8, 0), ("back", 0)]),
            ("", "n", 3, [("copy", 10, 0), ("back", 0)]),
        ]
        self.check(program, True)
        program[0][3][0] = ("copy", 10, 0)
        self.check(program, False)
        program[0][3][0] = ("copy", 8, 0)
        program[1][3][0] = ("copy", 11, 0)
        self.check(program, False)

    def test_the_place_of_a_last_back(self):
        for place, due in [(0, True), (7, True), (8, True), (9, False), (-1, False)]:
            self.check([("", "n", 1, [("back", place)])], due)


class TargetsTest(FormedTest):
    def test_rows_of_the_same_def_alone(self):
        for many in [2, 3, 40]:
            for t in [-1, 0, 1, many - 1, many, many + 1]:
                due = 0 <= t < many
                rows = [("rest",)] * (many - 2)
                for row in [("jump", t), ("zero", 0, t), ("none", 0, t), ("same", 0, 1, t)]:
                    long_def = ("", "n", 0, [("rest",)] * 39 + [("back", 0)])
                    self.check([("", "n", 0, rows + [row, ("back", 0)]), long_def], due)
                self.check([("", "n", 0, rows + [("rest",), ("jump", t)])], due)


class CallsTest(FormedTest):
    def test_as_many_qs_as_the_def_takes(self):
        for takes in ["", "n", "nn", "nnn", "nnnn", "nnnnn", "nnnnnn"]:
            for letters in [takes, takes.replace("n", "h")]:
                for many in range(9):
                    row = ("call", 1, 1, tuple(range(many)))
                    program = [("", "n", 2, [row, ("back", 0)]), (letters, "h", 0, [("back", 0)])]
                    with self.subTest(letters=letters, many=many):
                        self.check(program, many == len(takes))

    def test_qs_count_by_the_called_def_not_by_the_caller(self):
        self.check_row(("call", 0, 0, (1, 2)), True)
        self.check_row(("call", 0, 1, (1, 2, 3, 4, 5, 6)), True)
        self.check_row(("call", 0, 2, ()), True)
        self.check_row(("call", 0, 0, ()), False)
        self.check_row(("call", 0, 0, (1,)), False)
        self.check_row(("call", 0, 0, (1, 2, 3)), False)
        self.check_row(("call", 0, 1, (1, 2, 3, 4, 5)), False)
        self.check_row(("call", 0, 1, (1, 2, 3, 4, 5, 6, 7)), False)
        self.check_row(("call", 0, 2, (1,)), False)

    def test_defs_that_are_not_there(self):
        for f in [-1, -2, -3, 3, 4, 8, GREAT, -GREAT]:
            for qs in [(), (1, 2), (1, 2, 3, 4, 5, 6)]:
                self.check_row(("call", 0, f, qs), False)

    def test_each_q_at_its_bound_and_beyond(self):
        for words in [0, 1, 16]:
            for index in range(6):
                for place in [-1, 0, 7, 8, 7 + words, 8 + words, GREAT]:
                    qs = (1,) * index + (place,) + (1,) * (5 - index)
                    with self.subTest(words=words, qs=qs):
                        self.check_row(("call", 0, 1, qs), 0 <= place < 8 + words, words)

    def test_qs_alike_and_p_among_them(self):
        self.check_row(("call", 3, 1, (3, 3, 3, 3, 3, 3)), True)

    def test_a_def_may_call_itself_and_any_other(self):
        program = [("", "n", 0, [("call", 0, g, ()) for g in range(8)] + [("back", 0)]) for f in range(8)]
        self.check(program, True)


class HeadsTest(FormedTest):
    def head(self, f, takes, gives, words):
        program = [("", "n", 0, [("back", 0)]) for g in range(3)]
        program[f] = (takes, gives, words, [("back", 0)])
        return program

    def test_takes(self):
        for f in range(3):
            for takes in ["", "n", "nn", "nnnnnn"]:
                self.check(self.head(f, takes, "n", 0), True)
            for takes in ["h", "nh", "hn", "hhhhhh", "nnnnnh", "nhnhnh"]:
                self.check(self.head(f, takes, "n", 0), f > 0)
            for takes in ["nnnnnnn", "hhhhhhh", "nhnhnhn", "n" * 60, "-", "b", "N", "H", "nN", "n ", " n", "n,h",
                          "nbh", "0", "8", "m", "nnnnnx", "nhx"]:
                with self.subTest(takes=takes):
                    self.check(self.head(f, takes, "n", 0), False)

    def test_gives(self):
        for f in range(3):
            self.check(self.head(f, "n", "n", 0), True)
            self.check(self.head(f, "n", "h", 0), f > 0)
            for gives in ["", "nn", "nh", "hn", "hh", "-", "b", "N", "H", "n ", " n", "0"]:
                with self.subTest(gives=gives):
                    self.check(self.head(f, "n", gives, 0), False)

    def test_words(self):
        for f in range(3):
            for words in range(17):
                self.check(self.head(f, "n", "n", words), True)
            for words in [-1, -2, -8, -GREAT, 17, 18, 400, GREAT]:
                with self.subTest(words=words):
                    self.check(self.head(f, "n", "n", words), False)

    def test_words_below_zero_without_any_place(self):
        self.check([("", "n", -1, [("jump", 0)])], False)
        self.check([("", "n", 17, [("jump", 0)])], False)


class SizesTest(FormedTest):
    def test_rows(self):
        self.check(one_def([]), False)
        self.check(one_def([("back", 0)]), True)
        self.check(one_def([("jump", 0)]), True)
        for many, due in [(2, True), (39, True), (40, True), (41, False), (42, False), (400, False)]:
            for last in [("back", 0), ("jump", 0)]:
                rows = [("rest",)] * (many - 1) + [last]
                with self.subTest(many=many):
                    self.check(one_def(rows), due)
                    self.check([("", "n", 0, [("back", 0)]), ("h", "h", 0, rows)], due)

    def test_a_later_def_without_rows(self):
        self.check([("", "n", 0, [("back", 0)]), ("", "n", 0, [])], False)
        self.check([("", "n", 0, []), ("", "n", 0, [("back", 0)])], False)

    def test_defs(self):
        self.check([], False)
        for many, due in [(1, True), (2, True), (7, True), (8, True), (9, False), (10, False), (400, False)]:
            with self.subTest(many=many):
                self.check([("", "n", 0, [("back", 0)]) for f in range(many)], due)

    def test_a_fault_in_any_def_counts(self):
        for f in range(8):
            program = [("", "n", 0, [("rest",), ("back", 0)]) for g in range(8)]
            program[f][3][0] = ("tell", 8)
            self.check(program, False)

    def test_a_fault_in_any_row_counts(self):
        for at in range(39):
            rows = [("rest",)] * 39 + [("back", 0)]
            rows[at] = ("tell", 8)
            self.check(one_def(rows), False)


class LastRowTest(FormedTest):
    def test_the_last_row_is_a_jump_or_a_back(self):
        for word in TABLE:
            row = plain_row(word)
            program = [("nn", "n", 3, [("rest",), ("rest",), row]), ("", "n", 0, [("back", 0)])]
            with self.subTest(word=word):
                self.check(program, word in ("jump", "back"))
                self.check([("nn", "n", 0, [("back", 0)]), ("", "n", 3, program[0][3])], word in ("jump", "back"))

    def test_rows_that_no_way_reaches_must_be_formed_too(self):
        self.check(one_def([("back", 0), ("tell", 0), ("back", 0)]), True)
        self.check(one_def([("back", 0), ("tell", 8), ("back", 0)]), False)


class KindsTest(FormedTest):
    def test_a_program_with_a_fault_is_formed_all_the_same(self):
        self.check(one_def([("fetch", 0, 0, 0), ("plus", 1, 0, 0), ("lay", 3, 3, 3), ("back", 7)]), True)

    def test_asked_twice_the_same_is_told(self):
        program = program_with(("call", 1, 0, (1, 2)), 1, 4)
        self.assertIs(formed(program), True)
        self.assertIs(formed(program), True)
        program[1][3][2] = ("call", 1, 0, (1,))
        self.assertIs(formed(program), False)
