"""Carted runs: the carter comes to a hand at rests and makes, and puts right what the tables tell."""

from knownholds.carts import carted
from knownholds.hand import Hand
from knownholds.rows import BOXES
from knownholds.runs import outcome


# The frames as (f, at, first), the newest first: first is where the words of the frame begin in the pile.
def frames_of(hand):
    frames = []
    first = len(hand.pile)
    for f, at in reversed(hand.frames + [(hand.f, hand.at)]):
        first -= hand.program[f][2]
        frames.append((f, at, first))
    return frames


# Where place p of a frame lies in the boxes and the pile, taken as one list.
def index_of(first, p):
    return p if p < BOXES else first + p


def tables_by_stop(tables):
    told = {}
    for f, at, holds, halves in tables:
        told[(f, at)] = (holds, halves)
    return told


def cart_hand(hand, tables):
    told = tables_by_stop(tables)
    words = hand.boxes + hand.pile
    holds = []
    halves = []
    for f, at, first in frames_of(hand):
        table = told[(f, at)]
        holds.extend([index_of(first, p) for p in table[0]])
        halves.extend([(index_of(first, s), index_of(first, b)) for s, b in table[1]])
    yard_and_pairs = carted(hand.yard, [words[k] for k in holds])
    brought = dict(yard_and_pairs[1])
    brought[0] = 0
    fresh = list(words)
    for k in holds:
        fresh[k] = brought[words[k]]
    for s, b in halves:
        fresh[s] = words[s] + brought[words[b]] - words[b]
    hand.boxes = fresh[:BOXES]
    hand.pile = fresh[BOXES:]
    hand.yard = yard_and_pairs[0]
    return yard_and_pairs[1]


def carried(program, tables, inputs, most, when, start):
    hand = Hand(program, inputs, start)
    gone = 0
    come = 0
    while hand.end is None and gone < most:
        if hand.next_row()[0] in ("rest", "make"):
            if come < len(when) and when[come]:
                cart_hand(hand, tables)
            come += 1
        hand.go()
        gone += 1
    return outcome(hand)
