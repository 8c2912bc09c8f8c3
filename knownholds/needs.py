"""Needs: which places hold what a row still uses, along some rows."""

from knownholds.rows import BOXES, nexts, places_of, uses, writes


# The place from which what is in p behind the row has travelled; None where it has not been there ahead of the row.
def source(row, p):
    if row[0] == "copy" and row[1] == p:
        return row[2]
    if writes(row) == p or (row[0] == "call" and p < BOXES):
        return None
    return p


def used_pairs(program, f):
    pairs = []
    for at, row in enumerate(program[f][3]):
        pairs.extend([(at, p) for p, kind in uses(program, f, row)])
    return pairs


# For each row those behind which it may come.
def befores(rows):
    found = [[] for row in rows]
    for at in range(len(rows)):
        for t in nexts(rows, at):
            found[t].append(at)
    return found


# For each pair (row, place) that is needed, the next pair on a shortest way to a use; None where the row uses it.
def steps_to_uses(program, f):
    rows = program[f][3]
    ahead = befores(rows)
    steps = {}
    for pair in used_pairs(program, f):
        steps[pair] = None
    todo = list(steps)
    while todo:
        met = []
        for at, p in todo:
            pairs = [(before, source(rows[before], p)) for before in ahead[at]]
            for pair in [pair for pair in pairs if pair[1] is not None and pair not in steps]:
                steps[pair] = (at, p)
                met.append(pair)
        todo = met
    return steps


def needed_at(steps, at, places):
    return [p for p in range(places) if (at, p) in steps]


def needed(program, f):
    steps = steps_to_uses(program, f)
    return [needed_at(steps, at, places_of(program, f)) for at in range(len(program[f][3]))]


def use_way(program, f, at, p):
    steps = steps_to_uses(program, f)
    if (at, p) not in steps:
        return None
    way = [(at, p)]
    while steps[way[-1]] is not None:
        way.append(steps[way[-1]])
    return way


# The places needed across row at, of which the next row is the one behind it; ahead is what needed tells.
def needed_across(rows, at, ahead):
    sources = [source(rows[at], p) for p in ahead[at + 1]]
    return sorted(set([p for p in sources if p is not None]))
