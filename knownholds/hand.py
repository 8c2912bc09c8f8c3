"""The hand: it goes a program's rows, one by one."""

from knownholds.rows import BOXES
from knownholds.yard import Yard

MOST_WAITING = 40
# What a place holds that nothing was put into.
UNSET = -1

# For each word that uses a field: the parts of its row that are q and k,
# and 0 where the field is a hold-field, 1 where it is a number-field.
FIELDS = {
    "fetch": (2, 3, 0),
    "read": (2, 3, 1),
    "hang": (1, 2, 0),
    "write": (1, 2, 1),
    "into": (2, 3, 1),
}


# None where q's thing has no such field.
def field_spot(hand, row):
    parts = FIELDS[row[0]]
    hold = hand.worth(row[parts[0]])
    k = row[parts[1]]
    size = hand.yard.size_of(hold)
    if k >= size[parts[2]]:
        return None
    return hold + 1 + parts[2] * size[0] + k


def field_end(hand, row):
    if hand.worth(row[FIELDS[row[0]][0]]) == 0:
        return ("nil", hand.f, hand.at)
    if field_spot(hand, row) is None:
        return ("miss", hand.f, hand.at)
    return None


# The end to which the row brings the run, found ahead of its deed so that nothing is done then.
def end_at(hand, row):
    if row[0] in FIELDS:
        return field_end(hand, row)
    if row[0] == "call" and len(hand.frames) >= MOST_WAITING:
        return ("deep", hand.f, hand.at)
    if row[0] == "back" and not hand.frames:
        return ("back", hand.worth(row[1]))
    return None


def do_put(hand, row):
    hand.gain(row[1], row[2])


def do_nil(hand, row):
    hand.gain(row[1], 0)


def do_copy(hand, row):
    hand.gain(row[1], hand.worth(row[2]))


def do_plus(hand, row):
    hand.gain(row[1], hand.worth(row[2]) + hand.worth(row[3]))


def do_less(hand, row):
    hand.gain(row[1], hand.worth(row[2]) - hand.worth(row[3]))


def do_make(hand, row):
    hand.gain(row[1], hand.yard.make(row[2], row[3]))


def get_field(hand, row):
    hand.gain(row[1], hand.yard.word(field_spot(hand, row)))


def set_field(hand, row):
    hand.lay_word(field_spot(hand, row), hand.worth(row[3]))


def do_into(hand, row):
    hand.gain(row[1], field_spot(hand, row))


def do_look(hand, row):
    hand.gain(row[1], hand.yard.word(hand.worth(row[2])))


def do_lay(hand, row):
    hand.lay_word(hand.worth(row[1]), hand.worth(row[3]))


def do_jump(hand, row):
    hand.at = row[1]


# For zero and none alike: the hold of nothing is 0 as well.
def do_zero(hand, row):
    hand.at = row[2] if hand.worth(row[1]) == 0 else hand.at + 1


def do_same(hand, row):
    hand.at = row[3] if hand.worth(row[1]) == hand.worth(row[2]) else hand.at + 1


def do_call(hand, row):
    # All are read ahead, for the first boxes may be among the q's.
    taken = [hand.worth(q) for q in row[3]]
    hand.boxes = taken + hand.boxes[len(taken):]
    hand.frames.append((hand.f, hand.at))
    hand.f = row[2]
    hand.at = 0
    hand.pile.extend([UNSET] * hand.own_words())


def do_back(hand, row):
    given = hand.worth(row[1])
    hand.pile = hand.pile[:len(hand.pile) - hand.own_words()]
    waiting = hand.frames.pop()
    hand.f = waiting[0]
    hand.at = waiting[1]
    hand.gain(hand.next_row()[1], given)


def do_tell(hand, row):
    hand.news.append(hand.worth(row[1]))
    hand.at += 1


def do_rest(hand, row):
    hand.at += 1


DEEDS = {
    "put": do_put,
    "nil": do_nil,
    "copy": do_copy,
    "plus": do_plus,
    "less": do_less,
    "make": do_make,
    "fetch": get_field,
    "read": get_field,
    "hang": set_field,
    "write": set_field,
    "into": do_into,
    "look": do_look,
    "lay": do_lay,
    "jump": do_jump,
    "zero": do_zero,
    "none": do_zero,
    "same": do_same,
    "call": do_call,
    "back": do_back,
    "tell": do_tell,
    "rest": do_rest,
}


class Hand:
    def __init__(self, program, inputs, start):
        self.program = program
        self.f = 0
        self.at = 0
        self.boxes = list(inputs) + [UNSET] * (BOXES - len(inputs))
        self.pile = [UNSET] * program[0][2]
        self.frames = []
        self.yard = Yard(start)
        self.news = []
        self.end = None

    # How many words of the pile the frame of the def at hand has.
    def own_words(self):
        return self.program[self.f][2]

    def next_row(self):
        return self.program[self.f][3][self.at]

    # The newest frame is the last of the pile, so its first word is told from the pile's end.
    def pile_index(self, p):
        return len(self.pile) - self.own_words() + p - BOXES

    def worth(self, p):
        return self.boxes[p] if p < BOXES else self.pile[self.pile_index(p)]

    # Puts a worth into p and goes on at the next row.
    def gain(self, p, worth):
        if p < BOXES:
            self.boxes[p] = worth
        else:
            self.pile[self.pile_index(p)] = worth
        self.at += 1

    # Lays a word at a spot of the yard and goes on at the next row.
    def lay_word(self, spot, word):
        self.yard.set_word(spot, word)
        self.at += 1

    def go(self):
        if self.end is None:
            row = self.next_row()
            self.end = end_at(self, row)
            if self.end is None:
                DEEDS[row[0]](self, row)
