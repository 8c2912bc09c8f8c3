"""What the tests share: programs made from a chance that is handed in, and kinds gone way by way."""

from knownholds.faults import fault


# Makes a def without a fault: each place that is used keeps one kind from the end of the first rows on, and behind
# a call the boxes are put anew. Jumps go to the beginnings of blocks alone.
class Maker:
    def __init__(self, chance, heads, f):
        self.chance = chance
        self.heads = heads
        takes = heads[f][0]
        self.gives = heads[f][1]
        self.places = {"n": [6, 8 + len(takes)], "h": [7, 9 + len(takes)]}
        self.rows = []
        for box, letter in enumerate(takes):
            self.rows.append(("copy", 8 + box, box))
            self.places[letter].append(8 + box)
        self.rows.append(("put", 8 + len(takes), chance.randrange(4)))
        self.rows.append(("make", 9 + len(takes), chance.randrange(2, 6), chance.randrange(2, 6)))
        self.scratch = 5
        self.words = 2 + len(takes)
        self.fresh_boxes()
        self.starts = []

    def fresh_boxes(self):
        self.rows.append(("copy", 6, self.places["n"][1]))
        self.rows.append(("copy", 7, self.places["h"][1]))

    def one(self, letter):
        return self.chance.choice(self.places[letter])

    def block(self):
        self.starts.append(len(self.rows))
        n, h, k = self.one("n"), self.one("h"), self.chance.choice([0, 0, 0, 1, 1, 2, 3])
        rows = self.chance.choice([
            [("put", n, self.chance.randrange(-2, 3))],
            [("nil", h)],
            [("copy", n, self.one("n"))],
            [("copy", h, self.one("h"))],
            [("plus", n, self.one("n"), self.one("n"))],
            [("less", n, self.one("n"), self.one("n"))],
            [("make", h, self.chance.randrange(1, 5), self.chance.randrange(1, 5))],
            [("make", h, self.chance.randrange(1, 5), self.chance.randrange(1, 5))],
            [("fetch", h, self.one("h"), k)],
            [("read", n, h, k)],
            [("hang", h, k, self.one("h"))],
            [("hang", h, k, self.one("h"))],
            [("write", h, k, n)],
            [("into", self.scratch, h, k), ("lay", self.scratch, h, n), ("look", n, self.scratch, h)],
            [("jump", None)],
            [("zero", n, None)],
            [("none", h, None)],
            [("same", h, self.one("h"), None)],
            [("tell", n)],
            [("tell", n)],
            [("rest",)],
            [("call",)],
            [("call",)],
            [("back", self.one(self.gives))],
        ])
        if rows[0][0] == "call":
            self.call()
        else:
            self.rows += rows

    def call(self):
        f = self.chance.randrange(len(self.heads))
        takes, gives = self.heads[f]
        self.rows.append(("call", self.one(gives), f, tuple([self.one(letter) for letter in takes])))
        self.fresh_boxes()

    def made(self):
        while len(self.rows) < self.chance.randrange(20, 36):
            self.block()
        self.rows.append(self.chance.choice([("jump", None), ("back", self.one(self.gives))]))
        rows = [row[:-1] + (self.chance.choice(self.starts),) if row[-1] is None else row for row in self.rows]
        return rows, self.words


def made_program(chance):
    heads = []
    for f in range(chance.randrange(1, 4)):
        letters = "n" if f == 0 else "nh"
        takes = "".join([chance.choice(letters) for k in range(chance.randrange(4))])
        heads.append((takes, chance.choice(letters)))
    program = []
    for f, (takes, gives) in enumerate(heads):
        rows, words = Maker(chance, heads, f).made()
        program.append((takes, gives, words, rows))
    return program


PARTS = {
    "put": ("p", "num"), "nil": ("p",), "copy": ("p", "any"), "plus": ("p", "n", "n"), "less": ("p", "n", "n"),
    "make": ("p", "k", "k"), "fetch": ("p", "h", "k"), "read": ("p", "h", "k"), "hang": ("h", "k", "h"),
    "write": ("h", "k", "n"), "into": ("p", "h", "k"), "jump": ("t",), "zero": ("n", "t"), "none": ("h", "t"),
    "same": ("h", "h", "t"), "tell": ("n",), "rest": (),
}


# Goes kinds behind one row of def f, word by word as promise 15 tells them, in another way than the package does.
def slow_behind(program, f, row, kinds, table):
    now = dict(enumerate(kinds))
    if row[0] == "call":
        for p in now:
            if p < 8 or now[p] in (0, 1, 2, 3, 4, 5, 6, 7):
                now[p] = None
    if row[0] in ("make", "rest", "call") and table is not None:
        for p in now:
            if now[p] == "h" and p not in table[0]:
                now[p] = None
            elif now[p] not in ("n", "h", None) and [p, now[p]] not in [list(half) for half in table[1]]:
                now[p] = None
    if row[0] in ("hang", "write", "lay", "jump", "zero", "none", "same", "back", "tell", "rest"):
        return [now[p] for p in sorted(now)]
    for p in now:
        if now[p] not in ("n", "h", None) and now[p] == row[1]:
            now[p] = None
    if row[0] in ("put", "plus", "less", "read", "look"):
        now[row[1]] = "n"
    elif row[0] in ("nil", "make", "fetch"):
        now[row[1]] = "h"
    elif row[0] == "copy":
        now[row[1]] = kinds[row[2]] if kinds[row[2]] != row[1] else None
    elif row[0] == "into":
        now[row[1]] = row[2] if row[2] != row[1] else None
    else:
        now[row[1]] = program[row[2]][1]
    return [now[p] for p in sorted(now)]


def slow_nexts(rows, at):
    row = rows[at]
    return {"back": [], "jump": [row[-1]], "zero": [at + 1, row[-1]], "none": [at + 1, row[-1]],
            "same": [at + 1, row[-1]]}.get(row[0], [at + 1])


# The tables' own table of a stop, as a pair, or None.
def told_at(tables, f, at):
    found = [(holds, halves) for g, t, holds, halves in tables or [] if (g, t) == (f, at)]
    return found[0] if found else None


# Each pair (row, kinds) that some way of at most most rows comes to: a list of lists of kinds for each row.
def slow_kinds(program, f, tables, most):
    takes, gives, words, rows = program[f]
    found = [[] for row in rows]
    now = [(0, list(takes) + [None] * (8 + words - len(takes)))]
    for length in range(most):
        later = []
        for at, kinds in now:
            if kinds not in found[at]:
                found[at].append(kinds)
                left = slow_behind(program, f, rows[at], kinds, told_at(tables, f, at))
                later += [(t, left) for t in slow_nexts(rows, at)]
        now = later
    return found


# Makes a def whose rows mostly use places of the kind due, as far as the row above tells them; jumps go anywhere.
class Guide:
    def __init__(self, chance, heads, f, most, sure):
        self.chance = chance
        self.heads = heads
        self.f = f
        self.most = most
        self.sure = sure
        self.words = chance.randrange(0, 5)
        self.places = sorted(chance.sample(range(8), chance.randrange(2, 5))) + list(range(8, 8 + self.words))
        takes = heads[f][0]
        self.places = sorted(set(self.places) | set(range(len(takes))))
        self.kinds = list(takes) + [None] * (8 + self.words - len(takes))
        self.program = [(taken, given, 0, []) for taken, given in heads]

    def one(self, fits):
        found = [p for p in self.places if fits(self.kinds[p])]
        if found and self.chance.random() < self.sure:
            return self.chance.choice(found)
        return self.chance.choice(self.places)

    def part(self, sort):
        if sort in ("n", "h"):
            return self.one(lambda kind: kind == sort)
        if sort == "any":
            return self.one(lambda kind: kind is not None)
        if sort == "p":
            return self.one(lambda kind: kind in (None, "n"))
        if sort == "num":
            return self.chance.randrange(-2, 3)
        if sort == "k":
            return self.chance.choice([0, 0, 0, 1, 1, 2, 9])
        return self.chance.randrange(self.most)

    def spot(self):
        s = self.one(lambda kind: isinstance(kind, int))
        b = self.kinds[s]
        return (s, b if isinstance(b, int) else self.chance.choice(self.places))

    def row(self, word):
        if word == "look":
            return (word, self.part("p")) + self.spot()
        if word == "lay":
            return (word,) + self.spot() + (self.part("n"),)
        if word == "back":
            return (word, self.part(self.heads[self.f][1]))
        if word == "call":
            g = self.chance.randrange(len(self.heads))
            return (word, self.part("p"), g, tuple([self.part(letter) for letter in self.heads[g][0]]))
        if word == "make":
            return (word, self.part("p"), self.chance.randrange(4), self.chance.randrange(4))
        return (word,) + tuple([self.part(sort) for sort in PARTS[word]])

    # A thing and a spot of it, that may be still there at the end.
    def first_rows(self):
        if self.most < 6 or len(self.places) < 4 or self.chance.random() < 0.3:
            return []
        s, b = self.chance.sample(self.places[-4:], 2)
        return [("make", b, 2, 2), ("into", s, b, 0)]

    def made(self, bag):
        rows = []
        for row in self.first_rows():
            rows.append(row)
            self.kinds = slow_behind(self.program, self.f, rows[-1], self.kinds, None)
        while len(rows) < self.most - 1:
            late = len(rows) == self.most - 2 and self.most > 6
            rows.append(self.row("look" if late else self.chance.choice(bag)))
            self.kinds = slow_behind(self.program, self.f, rows[-1], self.kinds, None)
        rows.append(self.row(self.chance.choice(["jump", "back", "back"])))
        return (self.heads[self.f][0], self.heads[self.f][1], self.words, rows)


BAG = sorted(PARTS) * 2 + ["back", "look", "lay", "call"] + ["make", "into", "look", "lay", "rest", "call"] * 3


def guided_program(chance, defs, most, sure):
    heads = []
    for f in range(chance.randrange(1, defs + 1)):
        letters = "n" if f == 0 else "nh"
        takes = "".join([chance.choice(letters) for k in range(chance.randrange(4))])
        heads.append((takes, chance.choice(letters)))
    return [Guide(chance, heads, f, chance.randrange(1, most + 1), sure).made(BAG) for f in range(len(heads))]


# The program with each row at which a fault is told put out for one that uses nothing, until there is none.
def mended(chance, program):
    program = [(takes, gives, words, list(rows)) for takes, gives, words, rows in program]
    found = fault(program, None)
    while found is not None:
        rows = program[found[0]][3]
        if found[1] == len(rows) - 1:
            rows[found[1]] = ("jump", chance.randrange(len(rows)))
        else:
            rows[found[1]] = chance.choice([("rest",), ("rest",), ("put", found[2], 1), ("make", found[2], 2, 2)])
        found = fault(program, None)
    return program


# Tables that fit the program: at each stop the holds and halves that wish tells of it, as far as they fit, or any.
def fitting_tables(program, wish):
    tables = []
    for f, (takes, gives, words, rows) in enumerate(program):
        for at, row in enumerate(rows):
            if row[0] in ("make", "rest", "call"):
                first = 8 if row[0] == "call" else 0
                holds, halves = wish(f, at, first, 8 + words)
                holds = sorted(set([p for p in holds if p >= first]))
                halves = [(s, b) for s, b in sorted(halves) if s >= first and s not in holds and b in holds]
                tables.append((f, at, holds, halves))
    return tables


def any_table(chance, first, places):
    holds = [p for p in range(first, places) if chance.random() < 0.2]
    halves = [(s, chance.choice(holds)) for s in range(first, places) if holds and chance.random() < 0.1]
    return holds, halves


# Tables that tell at each stop some of what is known there by all ways without tables, mostly all of it.
def known_tables(chance, program, share):
    many = [slow_kinds(program, f, None, 800) for f in range(len(program))]

    def wish(f, at, first, places):
        kinds = [column[0] if len(set(column)) == 1 else None for column in zip(*many[f][at])]
        halves = [(s, b) for s, b in enumerate(kinds) if isinstance(b, int) and chance.random() < share]
        holds = [p for p, kind in enumerate(kinds) if kind == "h" and chance.random() < share]
        return holds + [b for s, b in halves if b >= first], halves

    return fitting_tables(program, wish)


# The pairs (place, kind) that row at must find, and then its table's.
def slow_dues(program, f, at, table):
    takes, gives, words, rows = program[f]
    row = rows[at]
    if row[0] == "call":
        dues = [(row[3][k], program[row[2]][0][k]) for k in range(len(row[3]))]
    elif row[0] == "back":
        dues = [(row[1], gives)]
    elif row[0] == "look":
        dues = [(row[2], row[3])]
    elif row[0] == "lay":
        dues = [(row[1], row[2]), (row[3], "n")]
    else:
        dues = [(part, sort) for part, sort in zip(row[1:], PARTS[row[0]]) if sort in ("n", "h")]
    if table is not None:
        dues += [(p, "h") for p in table[0]] + list(table[1])
    return dues


# The first fault that ways of at most most rows show, without its way, or None.
def slow_fault(program, tables, most):
    for f in range(len(program)):
        for at, many in enumerate(slow_kinds(program, f, tables, most)):
            for p, due in slow_dues(program, f, at, told_at(tables, f, at)) if many else []:
                if [kinds for kinds in many if kinds[p] != due]:
                    return (f, at, p, due)
    return None


# The kinds ahead of the last row of a way.
def kinds_along(program, f, way, tables):
    takes, gives, words, rows = program[f]
    kinds = list(takes) + [None] * (8 + words - len(takes))
    for at in way[:-1]:
        kinds = slow_behind(program, f, rows[at], kinds, told_at(tables, f, at))
    return kinds


# The places in which what is in p ahead of the row is behind it.
def slow_travels(row, p):
    writing = ("put", "nil", "copy", "plus", "less", "make", "fetch", "read", "into", "look", "call")
    found = []
    if (row[0] not in writing or row[1] != p) and (row[0] != "call" or p > 7):
        found.append(p)
    if row[0] == "copy" and row[2] == p and row[1] not in found:
        found.append(row[1])
    return found


# Each pair (row, place) to which what is in p ahead of row at travels.
def slow_journeys(program, f, at, p):
    rows = program[f][3]
    found = [(at, p)]
    for now, place in found:
        for t in slow_nexts(rows, now):
            found += [(t, q) for q in slow_travels(rows[now], place) if (t, q) not in found]
    return found


def slow_uses(program, f, at, p):
    return p in [place for place, kind in slow_dues(program, f, at, None)]


def slow_needed(program, f):
    takes, gives, words, rows = program[f]
    used = [[slow_uses(program, f, at, p) for p in range(8 + words)] for at in range(len(rows))]
    return [[p for p in range(8 + words) if any([used[t][q] for t, q in slow_journeys(program, f, at, p)])]
            for at in range(len(rows))]
