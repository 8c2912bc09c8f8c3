"""Kinds: what is known of each place ahead of a row, along one way and along all."""

from knownholds.rows import BOXES, is_stop, nexts, places_of, writes

# For each word whose place gets the same kind always, that kind; copy, into and call are not here.
GAINS = {
    "put": "n",
    "nil": "h",
    "plus": "n",
    "less": "n",
    "make": "h",
    "fetch": "h",
    "read": "n",
    "look": "n",
}


# Of the kinds the places alone are whole numbers: a spot's kind is the place of its thing.
def is_spot(kind):
    return isinstance(kind, int)


# The tables of def f by their rows: none where the tables are left out.
def tables_of(f, tables):
    if tables is None:
        return {}
    told = {}
    for table in tables:
        if table[0] == f:
            told[table[1]] = (table[2], table[3])
    return told


def first_kinds(program, f):
    takes = list(program[f][0])
    return takes + [None] * (places_of(program, f) - len(takes))


# The called def uses the boxes as it likes, so neither they nor their things are known behind it.
def is_lost_at_call(p, kind):
    return p < BOXES or (is_spot(kind) and kind < BOXES)


# The carter brings holds and spots with it only where the table tells them.
def is_lost_at_table(p, kind, table):
    if kind == "h":
        return p not in table[0]
    return is_spot(kind) and (p, kind) not in table[1]


def gained(program, row, kinds):
    word = row[0]
    if word == "call":
        return program[row[2]][1]
    if word == "copy":
        return None if kinds[row[2]] == row[1] else kinds[row[2]]
    if word == "into":
        return None if row[2] == row[1] else row[2]
    return GAINS[word]


def behind(program, f, at, kinds, table):
    row = program[f][3][at]
    left = list(kinds)
    if row[0] == "call":
        left = [None if is_lost_at_call(p, kind) else kind for p, kind in enumerate(left)]
    if is_stop(row) and table is not None:
        left = [None if is_lost_at_table(p, kind, table) else kind for p, kind in enumerate(left)]
    written = writes(row)
    if written is not None:
        left = [None if kind == written else kind for kind in left]
        left[written] = gained(program, row, kinds)
    return left


def shared(kinds, others):
    return [kind if kind == other else None for kind, other in zip(kinds, others)]


# Rows are gone again until no row knows less than before. What a place has behind a row hangs on one place ahead
# of it at most, so nothing is lost by going on from what the ways to a row share.
def kinds_of(program, f, tables):
    rows = program[f][3]
    told = tables_of(f, tables)
    known = [None] * len(rows)
    known[0] = first_kinds(program, f)
    todo = [0]
    while todo:
        at = todo.pop()
        left = behind(program, f, at, known[at], told.get(at))
        for t in nexts(rows, at):
            fewer = list(left) if known[t] is None else shared(known[t], left)
            if fewer != known[t]:
                known[t] = fewer
                todo.append(t)
    return known
