"""Promise 12 with the table of 8, and the ends of 13 as a hand comes to them."""

import copy
import unittest

from knownholds.forms import formed
from knownholds.hand import Hand
from knownholds.yard import Yard

GREAT = 10 ** 60 - 1
# Boxes and words of the pile, among them the first and the last ones of a def with three words.
PLACES = [0, 1, 7, 8, 9, 10]
WORDS = 3
STARTS = [1, 40, GREAT]


# All that a hand has, in lists of the test's own.
def state(hand):
    return {
        "f": hand.f, "at": hand.at, "boxes": list(hand.boxes), "pile": list(hand.pile), "frames": list(hand.frames),
        "free": hand.yard.free, "things": hand.yard.told(), "news": list(hand.news), "end": hand.end,
    }


class HandTest(unittest.TestCase):
    def hand_of(self, program, inputs, start):
        self.assertTrue(formed(program), program)
        self.program = program
        self.before = copy.deepcopy(program)
        return Hand(program, inputs, start)

    # A hand at row 0 of these rows, once in def 0 itself, once in a def that was called while two frames wait.
    def hands(self, rows, start=1):
        yield self.hand_of([("", "n", WORDS, rows)], [], start)
        outer = [("put", 8, 111), ("put", 9, 222), ("call", 9, 1, ()), ("back", 9)]
        middle = [("rest",), ("call", 8, 2, ()), ("back", 8)]
        hand = self.hand_of([("", "n", 2, outer), ("", "n", 1, middle), ("", "n", WORDS, rows)], [], start)
        self.go_rows(hand, 5)
        self.assertEqual((hand.f, hand.at), (2, 0))
        yield hand

    def go_rows(self, hand, many):
        for turn in range(many):
            self.assertIsNone(hand.go())
            self.assertIsNone(hand.end)

    # Goes a row and looks that just what is told changes; places are those of the def with WORDS words at hand.
    def step(self, hand, places, changes):
        due = state(hand)
        due["at"] += 1
        for p in places:
            if p < 8:
                due["boxes"][p] = places[p]
            else:
                due["pile"][len(due["pile"]) - WORDS + p - 8] = places[p]
        due.update(changes)
        self.assertIsNone(hand.go())
        self.assertEqual(state(hand), due)
        self.assertEqual(self.program, self.before)

    # The next row ends the run: nothing but the end changes, and nothing at all behind it.
    def ends(self, hand, end):
        due = state(hand)
        due["end"] = end
        for turn in range(3):
            self.assertIsNone(hand.go())
            self.assertEqual(state(hand), due)
            self.assertIsInstance(hand.end, tuple)
        self.assertEqual(self.program, self.before)


class BeginningTest(HandTest):
    def test_fields_at_the_beginning(self):
        for many in range(7):
            for words in [0, 1, 16]:
                for start in STARTS:
                    inputs = [GREAT, -GREAT, 0, -1, 5, 6][:many]
                    program = [("n" * many, "n", words, [("back", 0)]), ("h", "h", 5, [("back", 0)])]
                    hand = self.hand_of(program, inputs, start)
                    self.assertEqual(state(hand), {
                        "f": 0, "at": 0, "boxes": inputs + [-1] * (8 - many), "pile": [-1] * words, "frames": [],
                        "free": start, "things": [], "news": [], "end": None,
                    })
                    self.assertEqual(hand.program, program)
                    self.assertIsInstance(hand.yard, Yard)

    def test_kinds_of_the_fields(self):
        hand = self.hand_of([("n", "n", 2, [("back", 0)])], [3], 1)
        for field in [hand.boxes, hand.pile, hand.frames, hand.news]:
            self.assertIs(type(field), list)

    def test_inputs_stay_and_are_apart(self):
        inputs = [1, 2]
        hand = self.hand_of([("nn", "n", 0, [("put", 0, 9), ("plus", 1, 0, 1), ("back", 1)])], inputs, 1)
        self.go_rows(hand, 2)
        self.assertEqual(inputs, [1, 2])
        self.assertEqual(hand.boxes[:2], [9, 11])

    def test_two_hands_are_apart(self):
        program = [("n", "n", 1, [("make", 8, 0, 0), ("tell", 0), ("call", 0, 0, (0,)), ("back", 0)])]
        inputs = [4]
        one = self.hand_of(program, inputs, 1)
        other = self.hand_of(program, inputs, 1)
        before = state(other)
        self.go_rows(one, 6)
        self.assertEqual(state(other), before)
        self.assertEqual(one.news, [4, 4])


class NumbersTest(HandTest):
    def test_put(self):
        for p in PLACES:
            for number in [0, 1, -1, 77, GREAT, -GREAT]:
                for hand in self.hands([("put", p, number), ("back", p)]):
                    self.step(hand, {p: number}, {})

    def test_plus_and_less(self):
        for p in PLACES:
            for q in PLACES:
                for r in PLACES:
                    for one, other in [(5, 7), (-3, 3), (GREAT, GREAT), (-GREAT, GREAT)]:
                        one = other if q == r else one
                        rows = [("put", q, one), ("put", r, other), ("plus", p, q, r), ("put", q, one),
                                ("put", r, other), ("less", p, q, r), ("back", p)]
                        for hand in self.hands(rows):
                            self.go_rows(hand, 2)
                            self.step(hand, {p: one + other}, {})
                            self.go_rows(hand, 2)
                            self.step(hand, {p: one - other}, {})

    def test_sums_have_as_many_figures_as_they_need(self):
        rows = [("put", 8, GREAT)] + [("plus", 8, 8, 8)] * 30 + [("back", 8)]
        for hand in self.hands(rows):
            self.go_rows(hand, 31)
            self.assertEqual(hand.pile[-WORDS], GREAT * 2 ** 30)

    def test_tell(self):
        for p in PLACES:
            rows = [("put", p, 5), ("tell", p), ("put", p, -GREAT), ("tell", p), ("tell", p), ("jump", 0)]
            for hand in self.hands(rows):
                self.go_rows(hand, 1)
                self.step(hand, {}, {"news": [5]})
                self.go_rows(hand, 1)
                self.step(hand, {}, {"news": [5, -GREAT]})
                self.step(hand, {}, {"news": [5, -GREAT, -GREAT]})

    def test_rest(self):
        for hand in self.hands([("put", 8, 5), ("rest",), ("rest",), ("back", 8)]):
            self.go_rows(hand, 1)
            self.step(hand, {}, {})
            self.step(hand, {}, {})


class CopyTest(HandTest):
    def test_a_number(self):
        for p in PLACES:
            for q in PLACES:
                for hand in self.hands([("put", q, 31), ("copy", p, q), ("tell", p), ("back", q)]):
                    self.go_rows(hand, 1)
                    self.step(hand, {p: 31}, {})
                    self.step(hand, {}, {"news": [31]})

    def test_a_hold_and_nothing_and_a_spot(self):
        for start in STARTS:
            rows = [("make", 2, 1, 2), ("copy", 9, 2), ("nil", 3), ("copy", 2, 3), ("into", 4, 9, 1), ("copy", 10, 4),
                    ("copy", 3, 5), ("jump", 0)]
            for hand in self.hands(rows, start):
                self.go_rows(hand, 1)
                self.step(hand, {9: start}, {})
                self.go_rows(hand, 1)
                self.step(hand, {2: 0}, {})
                self.go_rows(hand, 1)
                self.step(hand, {10: start + 3}, {})
                # Of any kind: also what nothing was put into.
                self.step(hand, {3: -1}, {})


class ThingsTest(HandTest):
    def test_nil(self):
        for p in PLACES:
            for hand in self.hands([("put", p, 5), ("nil", p), ("jump", 0)]):
                self.go_rows(hand, 1)
                self.step(hand, {p: 0}, {})

    def test_make(self):
        for start in STARTS:
            for p in PLACES:
                for h, m in [(0, 0), (9, 9), (2, 1), (0, 4), (3, 0)]:
                    for hand in self.hands([("make", p, h, m), ("make", p, 1, 1), ("jump", 0)], start):
                        first = (start, (0,) * h, (0,) * m)
                        then = start + 1 + h + m
                        self.step(hand, {p: start}, {"free": then, "things": [first]})
                        self.step(hand, {p: then}, {"free": then + 3, "things": [first, (then, (0,), (0,))]})

    def test_hang_and_fetch(self):
        for start in STARTS:
            for p in PLACES:
                for q in PLACES:
                    for k in range(3):
                        rows = [("make", 5, 0, 1), ("make", q, 3, 2), ("hang", q, k, 5), ("fetch", p, q, k),
                                ("jump", 0)]
                        for hand in self.hands(rows, start):
                            self.go_rows(hand, 2)
                            holds = tuple([start if j == k else 0 for j in range(3)])
                            self.step(hand, {}, {"things": [(start, (), (0,)), (start + 2, holds, (0, 0))]})
                            self.step(hand, {p: start}, {})

    def test_fetch_of_a_field_that_holds_nothing(self):
        for hand in self.hands([("make", 3, 2, 0), ("fetch", 8, 3, 1), ("fetch", 3, 3, 0), ("jump", 0)]):
            self.go_rows(hand, 1)
            self.step(hand, {8: 0}, {})
            self.step(hand, {3: 0}, {})

    def test_hang_of_itself_and_of_nothing(self):
        for q in PLACES:
            for r in PLACES:
                rows = [("nil", r), ("make", q, 2, 1), ("hang", q, 0, q), ("hang", q, 1, q), ("hang", q, 1, r),
                        ("jump", 0)]
                for hand in self.hands(rows):
                    self.go_rows(hand, 2)
                    self.step(hand, {}, {"things": [(1, (1, 0), (0,))]})
                    self.go_rows(hand, 1)
                    self.step(hand, {}, {"things": [(1, (1, 1 if q == r else 0), (0,))]})

    def test_write_and_read(self):
        for start in STARTS:
            for p in PLACES:
                for q in PLACES:
                    for k in range(3):
                        rows = [("put", 5, -71), ("make", q, 2, 3), ("write", q, k, 5), ("read", p, q, k), ("jump", 0)]
                        for hand in self.hands(rows, start):
                            self.go_rows(hand, 2)
                            numbers = tuple([-71 if j == k else 0 for j in range(3)])
                            self.step(hand, {}, {"things": [(start, (0, 0), numbers)]})
                            self.step(hand, {p: -71}, {})

    def test_write_of_every_place(self):
        for r in PLACES:
            for hand in self.hands([("make", 4, 0, 1), ("put", r, GREAT), ("write", 4, 0, r), ("jump", 0)]):
                self.go_rows(hand, 2)
                self.step(hand, {}, {"things": [(1, (), (GREAT,))]})

    def test_all_nine_fields_of_both_sorts(self):
        for k in range(9):
            rows = [("make", 3, 9, 9), ("put", 4, 12), ("write", 3, k, 4), ("hang", 3, k, 3), ("read", 8, 3, k),
                    ("fetch", 9, 3, k), ("into", 10, 3, k), ("jump", 0)]
            for hand in self.hands(rows, 7):
                self.go_rows(hand, 4)
                holds = tuple([7 if j == k else 0 for j in range(9)])
                numbers = tuple([12 if j == k else 0 for j in range(9)])
                self.assertEqual(hand.yard.told(), [(7, holds, numbers)])
                self.step(hand, {8: 12}, {})
                self.step(hand, {9: 7}, {})
                self.step(hand, {10: 7 + 1 + 9 + k}, {})


class SpotsTest(HandTest):
    def test_into(self):
        for start in STARTS:
            for p in PLACES:
                for q in PLACES:
                    for k in range(3):
                        for hand in self.hands([("make", q, 2, 3), ("into", p, q, k), ("jump", 0)], start):
                            self.go_rows(hand, 1)
                            self.step(hand, {p: start + 3 + k}, {})

    def test_look(self):
        for start in STARTS:
            for p in PLACES:
                for s in PLACES:
                    rows = [("make", 4, 1, 2), ("put", 5, 66), ("write", 4, 1, 5), ("into", s, 4, 1), ("look", p, s, 4),
                            ("jump", 0)]
                    for hand in self.hands(rows, start):
                        self.go_rows(hand, 4)
                        self.step(hand, {p: 66}, {})

    def test_lay(self):
        for start in STARTS:
            for s in PLACES:
                for r in PLACES:
                    if r != s:
                        rows = [("make", 4, 1, 2), ("put", r, -66), ("into", s, 4, 1), ("lay", s, 4, r), ("jump", 0)]
                        for hand in self.hands(rows, start):
                            self.go_rows(hand, 3)
                            self.step(hand, {}, {"things": [(start, (0,), (0, -66))]})

    def test_every_place_as_the_spots_thing(self):
        for b in PLACES:
            rows = [("make", b, 0, 1), ("put", 5, 8), ("into", 6, b, 0), ("lay", 6, b, 5), ("look", 4, 6, b),
                    ("jump", 0)]
            for hand in self.hands(rows):
                self.go_rows(hand, 3)
                self.step(hand, {}, {"things": [(1, (), (8,))]})
                self.step(hand, {4: 8}, {})


class JumpsTest(HandTest):
    def test_jump(self):
        for t in range(4):
            for hand in self.hands([("rest",), ("jump", t), ("rest",), ("jump", 0)]):
                self.go_rows(hand, 1)
                self.step(hand, {}, {"at": t})

    def test_zero(self):
        for p in PLACES:
            for t in range(5):
                for number in [0, 1, -1, GREAT, -GREAT]:
                    for hand in self.hands([("put", p, number), ("rest",), ("zero", p, t), ("rest",), ("jump", 0)]):
                        self.go_rows(hand, 2)
                        self.step(hand, {}, {"at": t if number == 0 else 3})

    def test_none(self):
        for p in PLACES:
            for t in range(5):
                for first in [("nil", p), ("make", p, 0, 0)]:
                    for hand in self.hands([first, ("rest",), ("none", p, t), ("rest",), ("jump", 0)]):
                        self.go_rows(hand, 2)
                        self.step(hand, {}, {"at": t if first[0] == "nil" else 3})

    def test_same(self):
        for p in PLACES:
            for q in PLACES:
                for t in range(6):
                    for first, then, alike in [
                        (("nil", p), ("nil", q), True),
                        (("make", p, 1, 1), ("copy", q, p), True),
                        (("make", p, 1, 1), ("make", q, 1, 1), p == q),
                        (("make", p, 1, 1), ("nil", q), p == q),
                        (("nil", p), ("make", q, 0, 0), p == q),
                    ]:
                        for hand in self.hands([first, then, ("rest",), ("same", p, q, t), ("rest",), ("jump", 0)]):
                            self.go_rows(hand, 3)
                            self.step(hand, {}, {"at": t if alike else 4})


class CallTest(HandTest):
    # Boxes 0 to 7 get 100 to 107, the words 108 to 110; then the row is a call of def 1.
    def caller(self, p, qs, words):
        rows = [("put", place, 100 + place) for place in range(11)] + [("call", p, 1, qs), ("back", p)]
        return [("", "n", 3, rows), ("n" * len(qs), "n", words, [("rest",), ("back", 0)])]

    def check(self, p, qs, words):
        hand = self.hand_of(self.caller(p, qs, words), [], 1)
        self.go_rows(hand, 11)
        boxes = [100 + q for q in qs] + [100 + place for place in range(len(qs), 8)]
        pile = [108, 109, 110] + [-1] * words
        self.step(hand, {}, {"f": 1, "at": 0, "boxes": boxes, "pile": pile, "frames": [(0, 11)]})
        self.assertIsInstance(hand.frames[0], tuple)

    def test_what_is_in_the_qs_comes_into_the_first_boxes(self):
        for words in [0, 1, 16]:
            for qs in [(), (0,), (7,), (8,), (10,), (3, 10), (8, 9, 10), (4, 4, 4), (9, 9, 0, 9)]:
                for p in PLACES:
                    self.check(p, qs, words)

    def test_all_qs_are_read_ahead(self):
        for qs in [(1, 0), (1, 2, 0), (2, 0, 1), (5, 4, 3, 2, 1, 0), (1, 2, 3, 4, 5, 0), (5, 0, 1, 2, 3, 4), (1, 1),
                   (0, 0, 0), (8, 0, 9, 1, 10, 2)]:
            self.check(0, qs, 2)

    def test_the_frames_that_wait_and_their_words(self):
        program = [
            ("", "n", 2, [("put", 8, 1), ("put", 9, 2), ("call", 9, 1, (8, 9)), ("tell", 8), ("back", 9)]),
            ("nn", "n", 0, [("rest",), ("call", 3, 2, (1, 0)), ("plus", 3, 3, 3), ("back", 3)]),
            ("nn", "n", 3, [("put", 8, 30), ("put", 10, 50), ("copy", 9, 0), ("call", 8, 3, ()), ("plus", 8, 8, 9),
                            ("back", 8)]),
            ("", "n", 1, [("put", 8, 7), ("back", 8)]),
        ]
        hand = self.hand_of(program, [], 1)
        self.go_rows(hand, 3)
        self.assertEqual((hand.f, hand.at, hand.pile, hand.frames), (1, 0, [1, 2], [(0, 2)]))
        self.go_rows(hand, 2)
        self.assertEqual((hand.f, hand.at, hand.pile), (2, 0, [1, 2, -1, -1, -1]))
        self.assertEqual((hand.frames, hand.boxes[:2]), ([(0, 2), (1, 1)], [2, 1]))
        self.go_rows(hand, 4)
        self.assertEqual((hand.f, hand.at, hand.pile), (3, 0, [1, 2, 30, 2, 50, -1]))
        self.assertEqual(hand.frames, [(0, 2), (1, 1), (2, 3)])
        self.go_rows(hand, 1)
        self.assertEqual(hand.pile, [1, 2, 30, 2, 50, 7])
        self.go_rows(hand, 1)
        self.assertEqual((hand.f, hand.at, hand.pile), (2, 4, [1, 2, 7, 2, 50]))
        self.assertEqual((hand.frames, hand.boxes[:2]), ([(0, 2), (1, 1)], [2, 1]))
        self.go_rows(hand, 2)
        self.assertEqual((hand.f, hand.at, hand.pile, hand.frames), (1, 2, [1, 2], [(0, 2)]))
        self.assertEqual(hand.boxes, [2, 1, -1, 9, -1, -1, -1, -1])
        self.go_rows(hand, 2)
        self.assertEqual((hand.f, hand.at, hand.pile, hand.frames), (0, 3, [1, 18], []))
        self.go_rows(hand, 1)
        self.assertEqual(hand.news, [1])
        self.ends(hand, ("back", 18))

    def test_a_frame_has_new_words_at_each_call(self):
        program = [("", "n", 1, [("put", 8, 5), ("call", 0, 1, ()), ("call", 0, 1, ()), ("back", 8)]),
                   ("", "n", 2, [("put", 9, 6), ("put", 8, 7), ("back", 9)])]
        hand = self.hand_of(program, [], 1)
        for turn in range(2):
            self.go_rows(hand, 2 - turn)
            self.assertEqual(hand.pile, [5, -1, -1])
            self.go_rows(hand, 3)
            self.assertEqual(hand.pile, [5])

    def test_a_def_that_calls_itself(self):
        program = [("n", "n", 1, [("zero", 0, 5), ("put", 8, 1), ("less", 8, 0, 8), ("call", 0, 0, (8,)), ("tell", 8),
                                  ("put", 1, 9), ("back", 1)])]
        hand = self.hand_of(program, [3], 1)
        while hand.f == 0 and len(hand.frames) < 3:
            self.go_rows(hand, 1)
        self.assertEqual((hand.pile, hand.frames), ([2, 1, 0, -1], [(0, 3)] * 3))
        self.go_rows(hand, 3 + 3 + 3 + 2)
        self.ends(hand, ("back", 9))
        self.assertEqual(hand.news, [0, 1, 2])


class BackTest(HandTest):
    def test_p_of_the_waiting_call_gets_what_is_given_back(self):
        for p in PLACES:
            for q in PLACES:
                outer = [("rest",), ("put", 8, 1), ("put", 9, 2), ("put", 10, 3), ("call", p, 1, ()), ("rest",),
                         ("back", p)]
                inner = [("put", place, 50 + place) for place in range(11)] + [("back", q)]
                hand = self.hand_of([("", "n", 3, outer), ("", "n", 3, inner)], [], 1)
                self.go_rows(hand, 5 + 11)
                boxes = [50 + place for place in range(8)]
                pile = [1, 2, 3]
                if p < 8:
                    boxes[p] = 50 + q
                else:
                    pile[p - 8] = 50 + q
                self.step(hand, {}, {"f": 0, "at": 5, "boxes": boxes, "pile": pile, "frames": []})

    def test_a_hold_is_given_back(self):
        for start in STARTS:
            program = [
                ("", "n", 1, [("call", 8, 1, ()), ("read", 0, 8, 0), ("back", 0)]),
                ("", "h", 2, [("make", 9, 0, 1), ("put", 0, 23), ("write", 9, 0, 0), ("back", 9)]),
            ]
            hand = self.hand_of(program, [], start)
            self.go_rows(hand, 5)
            self.assertEqual(hand.pile, [start])
            self.go_rows(hand, 1)
            self.ends(hand, ("back", 23))

    def test_the_frame_is_taken_off_by_its_own_words(self):
        for words in [0, 1, 5, 16]:
            program = [("", "n", 4, [("put", 11, 6), ("call", 8, 1, ()), ("back", 11)]),
                       ("", "n", words, [("put", 0, 3), ("back", 0)])]
            hand = self.hand_of(program, [], 1)
            self.go_rows(hand, 2)
            self.assertEqual(len(hand.pile), 4 + words)
            self.go_rows(hand, 2)
            self.assertEqual(hand.pile, [3, -1, -1, 6])
            self.ends(hand, ("back", 6))


class EndsTest(HandTest):
    # Rows ahead that leave something in each field, so that it shows where an end changes anything.
    def filled(self, row):
        return [("put", 5, 61), ("put", 10, 62), ("tell", 5), ("make", 6, 2, 2), ("write", 6, 0, 5),
                ("hang", 6, 1, 6), row]

    def test_back_while_no_frame_waits(self):
        for p in PLACES:
            for number in [0, -1, 17, GREAT, -GREAT]:
                program = [("n", "n", 3, [("make", 4, 1, 1), ("tell", 0), ("put", p, number), ("back", p)])]
                hand = self.hand_of(program, [3], 1)
                self.go_rows(hand, 3)
                self.ends(hand, ("back", number))

    def test_nil(self):
        for q in PLACES:
            for row in [("fetch", 1, q, 0), ("read", 8, q, 0), ("hang", q, 0, 6), ("write", q, 0, 5), ("into", 1, q, 0),
                        ("fetch", q, q, 9), ("read", q, q, 9), ("hang", q, 9, 6), ("hang", q, 9, q), ("write", q, 9, 5),
                        ("into", q, q, 9)]:
                rows = self.filled(("nil", q)) + [row, ("jump", 0)]
                for hand in self.hands(rows):
                    self.go_rows(hand, 7)
                    self.ends(hand, ("nil", hand.f, 7))

    def test_miss_of_hold_fields(self):
        for q in PLACES:
            for h in range(10):
                for k in range(10):
                    for row in [("fetch", 8, q, k), ("fetch", q, q, k), ("hang", q, k, 6), ("hang", q, k, q)]:
                        hand = next(self.hands(self.filled(("make", q, h, 9 - h)) + [row, ("jump", 0)]))
                        self.go_rows(hand, 7)
                        if k >= h:
                            self.ends(hand, ("miss", 0, 7))
                        else:
                            self.go_rows(hand, 1)
                            self.assertEqual(hand.at, 8)

    def test_miss_of_number_fields(self):
        for q in PLACES:
            for m in range(10):
                for k in range(10):
                    for row in [("read", 8, q, k), ("read", q, q, k), ("write", q, k, 5), ("into", 9, q, k),
                                ("into", q, q, k)]:
                        hand = next(self.hands(self.filled(("make", q, 9 - m, m)) + [row, ("jump", 0)]))
                        self.go_rows(hand, 7)
                        if k >= m:
                            self.ends(hand, ("miss", 0, 7))
                        else:
                            self.go_rows(hand, 1)
                            self.assertEqual(hand.at, 8)

    def test_miss_in_a_called_def(self):
        for row in [("fetch", 8, 6, 2), ("hang", 6, 2, 6), ("read", 8, 6, 2), ("write", 6, 2, 5), ("into", 8, 6, 2)]:
            for hand in self.hands(self.filled(("rest",)) + [row, ("jump", 0)]):
                self.go_rows(hand, 7)
                self.ends(hand, ("miss", hand.f, 7))

    def test_deep_at_the_call_while_forty_frames_wait(self):
        for words in [0, 1, 3]:
            program = [("", "n", words, [("put", 0, 4), ("tell", 0), ("call", 0, 0, ()), ("back", 0)])]
            hand = self.hand_of(program, [], 1)
            for frames in range(40):
                self.assertEqual(len(hand.frames), frames)
                self.go_rows(hand, 3)
            self.assertEqual(hand.frames, [(0, 2)] * 40)
            self.assertEqual(len(hand.pile), 41 * words)
            self.go_rows(hand, 2)
            self.ends(hand, ("deep", 0, 2))
            self.assertEqual(hand.news, [4] * 41)

    def test_deep_names_the_def_and_row_of_its_call(self):
        program = [
            ("", "n", 2, [("call", 8, 1, ()), ("back", 8)]),
            ("", "n", 1, [("put", 0, 1), ("rest",), ("call", 8, 2, (0,)), ("back", 8)]),
            ("n", "n", 0, [("call", 0, 1, ()), ("back", 0)]),
        ]
        hand = self.hand_of(program, [], 1)
        while len(hand.frames) < 40:
            self.go_rows(hand, 1)
        self.assertEqual(hand.f, 2)
        self.ends(hand, ("deep", 2, 0))

    def test_forty_frames_may_wait_and_go_back(self):
        program = [
            ("n", "n", 0, [("call", 1, 1, (0,)), ("back", 1)]),
            ("n", "n", 1, [("copy", 8, 0), ("zero", 0, 6), ("put", 1, 1), ("less", 0, 0, 1), ("call", 0, 1, (0,)),
                           ("tell", 8), ("back", 8)]),
        ]
        hand = self.hand_of(program, [39], 1)
        most = 0
        while hand.end is None:
            hand.go()
            most = max(most, len(hand.frames))
        self.assertEqual((hand.end, most), (("back", 39), 40))
        self.assertEqual(hand.news, list(range(1, 40)))
        self.assertEqual((hand.pile, hand.frames), ([], []))
        hand = self.hand_of(program, [40], 1)
        while hand.end is None:
            hand.go()
        self.assertEqual((hand.end, len(hand.frames)), (("deep", 1, 4), 40))

    def test_many_calls_one_behind_the_other_are_not_deep(self):
        program = [("n", "n", 1, [("copy", 8, 0), ("zero", 8, 5), ("put", 1, 1), ("call", 8, 1, (8, 1)), ("jump", 1),
                                  ("back", 8)]),
                   ("nn", "n", 0, [("less", 0, 0, 1), ("back", 0)])]
        hand = self.hand_of(program, [90], 1)
        while hand.end is None:
            hand.go()
        self.assertEqual(hand.end, ("back", 0))

    def test_a_hand_is_never_far(self):
        hand = self.hand_of([("", "n", 0, [("jump", 0)])], [], 1)
        self.go_rows(hand, 2000)
        self.assertIsNone(hand.end)
