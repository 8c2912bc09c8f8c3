"""Carting: the things that can be reached are brought to a new yard, the others are let go."""

from knownholds.yard import Yard


# Lays those of the held things that were not laid yet; a hold of no thing is refused by size_of.
def lay_held(yard, fresh, holds, places, pairs):
    for hold in holds:
        if hold not in places:
            size = yard.size_of(hold)
            places[hold] = fresh.make(size[0], size[1])
            pairs.append((hold, places[hold]))


def lay_words(fresh, first, words):
    for k, word in enumerate(words):
        fresh.set_word(first + k, word)


def carted(yard, roots):
    fresh = Yard(yard.free)
    # The hold of nothing stays, so it counts as a place from the first on.
    places = {0: 0}
    pairs = []
    lay_held(yard, fresh, roots, places, pairs)
    done = 0
    while done < len(pairs):
        lay_held(yard, fresh, yard.holds_of(pairs[done][0]), places, pairs)
        done += 1
    for old, now in pairs:
        holds = [places[hold] for hold in yard.holds_of(old)]
        lay_words(fresh, now + 1, holds + list(yard.numbers_of(old)))
    return (fresh, pairs)
