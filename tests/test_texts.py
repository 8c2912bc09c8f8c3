"""Promise 11: a program's text, shown and read."""

import copy
import random
import unittest

from knownholds.errors import NoText
from knownholds.forms import formed
from knownholds.texts import read, read_whole, shown

GREAT = 10 ** 60 - 1
SIGNS = [sign for sign in map(chr, range(32, 127)) if sign != "%"]

# Every word of the table, with the text of its row.
ROWS = [
    (("put", 3, 5), "put 3 5"),
    (("put", 0, -GREAT), "put 0 -" + "9" * 60),
    (("put", 23, GREAT), "put 23 " + "9" * 60),
    (("put", 1, 0), "put 1 0"),
    (("nil", 4), "nil 4"),
    (("copy", 5, 6), "copy 5 6"),
    (("plus", 1, 2, 3), "plus 1 2 3"),
    (("less", 4, 7, 6), "less 4 7 6"),
    (("make", 2, 9, 8), "make 2 9 8"),
    (("fetch", 1, 2, 9), "fetch 1 2 9"),
    (("read", 3, 4, 7), "read 3 4 7"),
    (("hang", 1, 5, 2), "hang 1 5 2"),
    (("write", 6, 2, 1), "write 6 2 1"),
    (("into", 8, 9, 3), "into 8 9 3"),
    (("look", 4, 5, 6), "look 4 5 6"),
    (("lay", 10, 11, 12), "lay 10 11 12"),
    (("jump", 0), "jump 0"),
    (("zero", 5, 0), "zero 5 0"),
    (("none", 6, 1), "none 6 1"),
    (("same", 6, 7, 2), "same 6 7 2"),
    (("call", 4, 1, (0, 5)), "call 4 1 0 5"),
    (("call", 4, 1, (5,)), "call 4 1 5"),
    (("call", 2, 0, ()), "call 2 0"),
    (("call", 0, 7, (6, 5, 4, 3, 2, 1)), "call 0 7 6 5 4 3 2 1"),
    (("back", 7), "back 7"),
    (("tell", 2), "tell 2"),
    (("rest",), "rest"),
]
NUMBERS = {"put": 2, "nil": 1, "copy": 2, "plus": 3, "less": 3, "make": 3, "fetch": 3, "read": 3, "hang": 3,
           "write": 3, "into": 3, "look": 3, "lay": 3, "jump": 1, "zero": 2, "none": 2, "same": 3, "back": 1,
           "tell": 1, "rest": 0}

PROGRAM = [
    ("nn", "n", 2, [("call", 4, 1, (0, 5)), ("put", 8, -7), ("zero", 8, 0), ("back", 4)]),
    ("hn", "h", 0, [("rest",), ("back", 0)]),
    ("", "n", 16, [("jump", 0)]),
]
TEXT = ("def nn n 2\ncall 4 1 0 5\nput 8 -7\nzero 8 0\nback 4\n"
        "def hn h 0\nrest\nback 0\n"
        "def - n 16\njump 0")


class TextsTest(unittest.TestCase):
    def both(self, program, text):
        before = copy.deepcopy(program)
        self.assertEqual(shown(program), text)
        self.assertEqual(program, before)
        self.reads(text, program)

    def reads(self, text, program):
        told = read(text)
        self.assertEqual(told, program)
        self.kinds(told)

    def kinds(self, program):
        self.assertIs(type(program), list)
        for one in program:
            self.assertIs(type(one), tuple)
            self.assertEqual([type(part) for part in one], [str, str, int, list])
            for row in one[3]:
                self.assertIs(type(row), tuple)
                self.assertIs(type(row[0]), str)
                due = [int, int, tuple] if row[0] == "call" else [int] * (len(row) - 1)
                self.assertEqual([type(part) for part in row[1:]], due)

    def refused(self, text):
        with self.subTest(text=text):
            with self.assertRaises(NoText):
                read(text)


class ShownTest(TextsTest):
    def test_a_program_and_its_text(self):
        self.assertTrue(formed(PROGRAM[:1] + [("nn", "h", 0, [("rest",), ("back", 0)])]))
        self.both(PROGRAM, TEXT)

    def test_every_word_is_tried(self):
        self.assertEqual(len(set([row[0] for row, text in ROWS])), 21)

    def test_every_word_shown_and_read_back(self):
        for row, text in ROWS:
            with self.subTest(row=row):
                self.both([("n", "n", 16, [row, ("back", 0)])], "def n n 16\n" + text + "\nback 0")
                self.both([("n", "n", 16, [row])], "def n n 16\n" + text)

    def test_all_words_in_one_def(self):
        rows = [row for row, text in ROWS]
        lines = [text for row, text in ROWS]
        self.both([("", "n", 0, rows), ("h", "h", 3, rows)],
                  "\n".join(["def - n 0"] + lines + ["def h h 3"] + lines))

    def test_heads(self):
        for takes in ["", "n", "h", "nh", "hn", "hhhhhh", "nnnnnn", "nhnhnh"]:
            for gives in ["n", "h"]:
                for words in [0, 1, 9, 10, 16]:
                    letters = takes or "-"
                    text = f"def {letters} {gives} {words}\nback 0"
                    self.both([(takes, gives, words, [("back", 0)])], text)

    def test_shown_twice_the_same(self):
        self.assertEqual(shown(PROGRAM), shown(PROGRAM))
        self.assertIs(type(shown(PROGRAM)), str)

    def test_programs_of_all_sorts(self):
        chance = random.Random(11)
        for turn in range(200):
            program = []
            for f in range(chance.randrange(1, 9)):
                takes = "".join([chance.choice("nh") for k in range(chance.randrange(7))])
                rows = [chance.choice(ROWS)[0] for k in range(chance.randrange(41))]
                program.append((takes, chance.choice("nh"), chance.randrange(17), rows))
            self.both(program, "\n".join([line_of(part) for part in flat(program)]))

    def test_a_text_of_nine_hundred_rows(self):
        program = [("", "n", 0, [("rest",)] * 299) for f in range(3)]
        text = "\n".join((["def - n 0"] + ["rest"] * 299) * 3)
        self.both(program, text)
        self.refused(text + "\n")


# Heads and rows one behind the other, each a tuple of its parts.
def flat(program):
    lines = []
    for takes, gives, words, rows in program:
        lines.append(("def", takes or "-", gives, words))
        lines += [row[:3] + row[3] if row[0] == "call" else row for row in rows]
    return lines


def line_of(parts):
    return " ".join([str(part) for part in parts])


class NumbersTest(TextsTest):
    def test_sixty_figures_and_sixty_one(self):
        for sign in ["", "-"]:
            for figures in ["9" * 60, "1" + "0" * 59, "1234567890" * 6]:
                number = int(sign + figures)
                self.reads("def - n 0\nput 0 " + sign + figures, [("", "n", 0, [("put", 0, number)])])
                self.reads("def - n 0\nput " + sign + figures + " 0", [("", "n", 0, [("put", number, 0)])])
                self.reads("def - n " + sign + figures, [("", "n", number, [])])
                self.reads("def - n 0\ncall 1 2 " + sign + figures, [("", "n", 0, [("call", 1, 2, (number,))])])
                for more in [figures + "0", figures + "7", "1" * 61, "9" * 300]:
                    self.refused("def - n 0\nput 0 " + sign + more)
                    self.refused("def - n 0\nput " + sign + more + " 0")
                    self.refused("def - n 0\ncall 1 2 " + sign + more)
                    self.refused("def - n " + sign + more)

    def test_numbers_that_are_not_so_written(self):
        for number in ["-0", "00", "01", "-01", "-00", "000", "0" * 60, "007", "+1", "+0", "-", "--1", "-+1", "1-",
                       "- 1", "1.0", "1e3", "1_0", "0x1", "a", "n", "h", "1a", "a1", "1,", "(1)", "1-1", "'1'"]:
            self.refused("def - n 0\nput 0 " + number)
            self.refused("def - n 0\nput " + number + " 0")
            self.refused("def - n " + number)
            self.refused("def - n 0\nback " + number)
            self.refused("def - n 0\ncall " + number + " 0")
            self.refused("def - n 0\ncall 0 " + number)
            self.refused("def - n 0\ncall 0 0 " + number)
            self.refused("def - n 0\ncall 0 0 1 " + number + " 2")

    def test_every_sign_in_the_place_of_a_figure(self):
        for sign in SIGNS:
            if sign in "0123456789":
                self.reads("def - n 0\nback " + sign, [("", "n", 0, [("back", int(sign))])])
                self.reads("def - n 0\nback 1" + sign + "2", [("", "n", 0, [("back", int("1" + sign + "2"))])])
            else:
                self.refused("def - n 0\nback " + sign)
                self.refused("def - n 0\nback 1" + sign)
                self.refused("def - n 0\nback 1" + sign + "2")
                if sign != "-":
                    self.refused("def - n 0\nback " + sign + "1")


class BlanksTest(TextsTest):
    def test_a_blank_more_anywhere(self):
        for index in range(len(TEXT) + 1):
            self.refused(TEXT[:index] + " " + TEXT[index:])

    def test_blanks_at_both_ends(self):
        for text in [" " + TEXT, TEXT + " ", " ", "  ", "def - n 0\n ", " \ndef - n 0", "def - n 0\nrest ",
                     "def - n 0\n rest", "def - n 0\ncall 0 0 ", "def - n 0 ", "def  - n 0", "def - n  0"]:
            self.refused(text)

    def test_line_feeds(self):
        self.refused("\n" + TEXT)
        self.refused(TEXT + "\n")
        self.refused("\n")
        self.refused("\n\n")
        self.refused("def - n 0\n")
        self.refused("\ndef - n 0")
        for index in range(len(TEXT)):
            if TEXT[index] == "\n":
                self.refused(TEXT[:index] + "\n" + TEXT[index:])
                self.refused(TEXT[:index] + " \n" + TEXT[index + 1:])
                self.refused(TEXT[:index] + "\n " + TEXT[index + 1:])
                self.refused(TEXT[:index] + TEXT[index + 1:])
                self.refused(TEXT[:index] + " " + TEXT[index + 1:])

    def test_a_line_feed_in_the_place_of_a_blank(self):
        for index in range(len(TEXT)):
            if TEXT[index] == " ":
                self.refused(TEXT[:index] + "\n" + TEXT[index + 1:])

    def test_the_empty_text(self):
        self.refused("")


class WordsTest(TextsTest):
    def test_as_many_numbers_as_the_word_has(self):
        for word in NUMBERS:
            for many in range(8):
                line = " ".join([word] + ["1"] * many)
                if many == NUMBERS[word]:
                    self.reads("def - n 0\n" + line, [("", "n", 0, [(word,) + (1,) * many])])
                else:
                    self.refused("def - n 0\n" + line)
                    self.refused("def - n 0\n" + line + "\nback 0")

    def test_a_call_has_two_numbers_or_more(self):
        self.refused("def - n 0\ncall")
        self.refused("def - n 0\ncall 1")
        for many in range(2, 60):
            numbers = list(range(many))
            line = " ".join(["call"] + [str(number) for number in numbers])
            self.reads("def - n 0\n" + line, [("", "n", 0, [("call", 0, 1, tuple(numbers[2:]))])])

    def test_words_that_are_none(self):
        for word in ["Put", "PUT", "pu", "puts", "p", "", "-", "0", "7", "defs", "Def", "DEF", "table", "re st",
                     "p2t", "put1", "1put", "put,", "#", "call-", "\"rest\"", "noop", "nop"]:
            for numbers in ["", " 1", " 1 2", " 1 2 3"]:
                self.refused("def - n 0\n" + word + numbers)
                self.refused(word + numbers)

    def test_every_sign_by_itself_or_amid_a_word(self):
        for sign in SIGNS:
            for text in [sign, "def - n 0\n" + sign, "def - n 0\nre" + sign + "st", "def - n 0\nrest" + sign,
                         "def - n 0\n" + sign + "rest", sign + "def - n 0", "def" + sign + "- n 0"]:
                if text != "def - n 0":
                    self.refused(text)

    def test_a_row_ahead_of_the_first_head(self):
        for row, text in ROWS:
            self.refused(text)
            self.refused(text + "\ndef - n 0")
            self.refused(text + "\n" + TEXT)


class HeadsTest(TextsTest):
    def test_a_head_alone(self):
        self.both([("", "n", 0, [])], "def - n 0")
        self.both([("nh", "h", 16, [])], "def nh h 16")

    def test_heads_without_rows_behind_one_another(self):
        self.both([("", "n", 0, []), ("n", "h", 1, []), ("", "n", 0, [])], "def - n 0\ndef n h 1\ndef - n 0")
        self.both([("", "n", 0, []), ("n", "h", 1, [("rest",)]), ("", "n", 0, [])],
                  "def - n 0\ndef n h 1\nrest\ndef - n 0")

    def test_a_part_more_or_less(self):
        for head in ["def", "def -", "def n", "def - n", "def n n", "def - 0", "def n 0", "def - n 0 0", "def - n 0 n",
                     "def n n n 0", "def - n 0 1", "def - - n 0", "def n 0 n"]:
            self.refused(head)
            self.refused("def - n 0\n" + head)
            self.refused(head + "\nback 0")

    def test_takes(self):
        for takes in ["n", "h", "nnnnnnn", "hnhnhnhnhn", "n" * 60]:
            self.both([(takes, "n", 0, [("rest",)])], f"def {takes} n 0\nrest")
        for takes in ["", "--", "-n", "n-", "N", "H", "nN", "b", "nb", "n,h", "0", "1", "n1", "nhx", "xnh", "nxh", "+"]:
            self.refused(f"def {takes} n 0")
            self.refused(f"def - n 0\ndef {takes} n 0\nback 0")

    def test_gives(self):
        for gives in ["", "-", "nn", "nh", "hn", "hh", "N", "H", "b", "0", "n-", "-n"]:
            self.refused(f"def - {gives} 0")
            self.refused(f"def n {gives} 0\nback 0")

    def test_every_sign_as_takes_and_gives(self):
        for sign in SIGNS:
            if sign in "nh":
                self.reads(f"def {sign} {sign} 0", [(sign, sign, 0, [])])
            else:
                self.refused(f"def n {sign} 0")
                if sign != "-":
                    self.refused(f"def {sign} n 0")

    def test_words_are_any_whole_number(self):
        for words in [-1, 17, -GREAT, GREAT]:
            self.both([("", "n", words, [("back", 0)])], f"def - n {words}\nback 0")


class NotFormedTest(TextsTest):
    def test_texts_that_are_read_but_not_formed(self):
        for text in ["def - n 0", "def h n 0\nback 0", "def - h 0\nback 0", "def - n 17\nback 0", "def - n -1\nback 0",
                     "def - n 0\nrest", "def - n 0\nback 8", "def - n 0\nback -1", "def - n 0\njump 1",
                     "def nnnnnnn n 0\nback 0", "def - n 0\nmake 0 10 0\nback 0", "def - n 0\ncall 0 1\nback 0",
                     "def - n 0\ncall 0 0 1\nback 0", "def - n 0\n" + "rest\n" * 40 + "back 0",
                     "\n".join(["def - n 0\nback 0"] * 9)]:
            program = read(text)
            self.kinds(program)
            self.assertIs(formed(program), False, text)
            self.assertEqual(shown(program), text)

    def test_a_text_that_is_formed(self):
        text = "def n n 1\nzero 0 3\ncall 8 1 0\ntell 8\nback 0\ndef n n 0\nback 0"
        self.assertIs(formed(read(text)), True)
        self.assertEqual(shown(read(text)), text)


class ApartTest(TextsTest):
    def test_read_twice_the_lists_are_apart(self):
        first = read(TEXT)
        second = read(TEXT)
        self.assertIsNot(first, second)
        for one, other in zip(first, second):
            self.assertIsNot(one[3], other[3])
        first[0][3].append(("rest",))
        first.append(("", "n", 0, []))
        self.assertEqual(second, PROGRAM)
        self.assertEqual(read(TEXT), PROGRAM)

    def test_the_rows_of_two_like_defs_are_apart(self):
        for text in ["def - n 0\ndef - n 0\ndef - n 0", "def n h 1\nback 0\ndef n h 1\nback 0\ndef n h 1\nback 0"]:
            program = read(text)
            many = len(program[1][3])
            program[0][3].append(("rest",))
            self.assertEqual([len(one[3]) for one in program], [many + 1, many, many])


class ReadWholeTest(unittest.TestCase):
    def refused(self, text, most):
        with self.subTest(text=text, most=most):
            with self.assertRaises(NoText):
                read_whole(text, most)

    def test_as_many_figures_as_are_allowed(self):
        for most in [1, 2, 60, 61, 300]:
            for many in [1, 2, 59, 60, 61, 299, 300, 301]:
                for figures in ["9" * many, "1" + "0" * (many - 1)]:
                    for sign in ["", "-"]:
                        if many <= most:
                            told = read_whole(sign + figures, most)
                            self.assertIs(type(told), int)
                            self.assertEqual(told, int(sign + figures))
                        else:
                            self.refused(sign + figures, most)

    def test_every_number_of_few_figures(self):
        for number in range(-120, 121):
            text = str(number)
            for most in [1, 2, 3, 60]:
                if len(text.lstrip("-")) <= most:
                    self.assertEqual(read_whole(text, most), number)
                else:
                    self.refused(text, most)

    def test_texts_that_are_no_whole_number(self):
        for most in [1, 2, 60, 300]:
            for text in ["", "-", "-0", "00", "01", "-01", "-00", "+1", "--1", "-+1", " 1", "1 ", "- 1", "1\n", "\n1",
                         "\n", " ", "a", "1a", "a1", "1a1", "n", "1_0", "1.", ".1", "1,0", "0x1", "1e1", "1-", "1-1"]:
                self.refused(text, most)

    def test_every_sign(self):
        for sign in SIGNS:
            if sign in "0123456789":
                self.assertEqual(read_whole(sign, 1), int(sign))
            else:
                self.refused(sign, 60)
                self.refused("1" + sign, 60)
                self.refused("1" + sign + "1", 60)
                self.refused("-" + sign + "1", 60)

    def test_zero(self):
        for most in [1, 2, 60, 300]:
            self.assertEqual(read_whole("0", most), 0)
