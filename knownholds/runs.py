"""Runs: a hand goes on until its end, or until as many rows were gone as are allowed."""

from knownholds.hand import Hand


# The end and the news of a run whose hand goes no more rows.
def outcome(hand):
    end = hand.end
    if end is None:
        end = ("far", hand.f, hand.at)
    return (end, list(hand.news))


def run(program, inputs, most, start):
    hand = Hand(program, inputs, start)
    gone = 0
    while hand.end is None and gone < most:
        hand.go()
        gone += 1
    return outcome(hand)
