"""The yard: things that lie one behind the other and hold one another."""

from knownholds.errors import NoSpot, NoThing


def head(h, m):
    return h << 4 | m


def head_parts(word):
    return (word >> 4, word & 15)


class Yard:
    # Words are kept by their spots in a dict: a start may be far too great for a list.
    def __init__(self, start):
        self.free = start
        self.words = {}
        self.sizes = {}

    def make(self, h, m):
        at = self.free
        self.sizes[at] = (h, m)
        self.words[at] = head(h, m)
        self.free = at + 1 + h + m
        for spot in range(at + 1, self.free):
            self.words[spot] = 0
        return at

    def is_thing(self, at):
        return at in self.sizes

    def size_of(self, at):
        if at not in self.sizes:
            raise NoThing(f"no thing begins at {at}")
        return self.sizes[at]

    def word(self, spot):
        if spot not in self.words:
            raise NoSpot(f"no word lies at {spot}")
        return self.words[spot]

    def set_word(self, spot, word):
        if spot not in self.words or spot in self.sizes:
            raise NoSpot(f"no field lies at {spot}")
        self.words[spot] = word

    def words_from(self, first, many):
        return tuple([self.words[spot] for spot in range(first, first + many)])

    def holds_of(self, at):
        size = self.size_of(at)
        return self.words_from(at + 1, size[0])

    def numbers_of(self, at):
        size = self.size_of(at)
        return self.words_from(at + 1 + size[0], size[1])

    def told(self):
        return [(at, self.holds_of(at), self.numbers_of(at)) for at in sorted(self.sizes)]
