"""Faults: whether tables fit a program, and the first row or table that a way belies."""

from knownholds.forms import table_formed
from knownholds.kinds import behind, first_kinds, kinds_of, tables_of
from knownholds.rows import BOXES, nexts, places_of, reached, stops_of, uses


def table_fits(program, table):
    f = table[0]
    # At a call the boxes are the called def's, so the table tells of words of the pile alone.
    first = BOXES if program[f][3][table[1]][0] == "call" else 0
    return table_formed(table[2], table[3], first, places_of(program, f))


def fit(program, tables):
    # Asked first, so that each table has a row of the program behind it.
    if [(table[0], table[1]) for table in tables] != stops_of(program):
        return False
    return all([table_fits(program, table) for table in tables])


# The pairs (place, kind) that must hold ahead of the row, in the order in which faults are told.
def dues_at(program, f, at, table):
    dues = uses(program, f, program[f][3][at])
    if table is not None:
        dues.extend([(p, "h") for p in table[0]])
        dues.extend(table[1])
    return dues


# Notes the row, and each of its places that has not the kind due; True where one of these was not met yet.
def meets_more(met, at, kinds, due):
    marks = [(at, None)] + [(at, p) for p, kind in enumerate(kinds) if kind != due]
    fresh = [mark for mark in marks if mark not in met]
    for mark in fresh:
        met[mark] = True
    return len(fresh) > 0


# What a place has behind a row is a kind of the row's own, or what one place has ahead of it, kept or lost. So it is
# enough to go on with the first way to each row, and with the first that spoils the kind due of each place there.
def spoiling_way(program, f, told, at, p, due):
    met = {}
    ways = [([0], first_kinds(program, f))]
    while ways:
        longer = []
        for way, kinds in ways:
            last = way[-1]
            if last == at and kinds[p] != due:
                return way
            if meets_more(met, last, kinds, due):
                left = behind(program, f, last, kinds, told.get(last))
                longer.extend([(way + [t], left) for t in nexts(program[f][3], last)])
        ways = longer
    return None


def fault_of(program, f, tables):
    told = tables_of(f, tables)
    known = kinds_of(program, f, tables)
    for at in reached(program[f][3]):
        for p, due in dues_at(program, f, at, told.get(at)):
            if known[at][p] != due:
                return (f, at, p, due, spoiling_way(program, f, told, at, p, due))
    return None


def fault(program, tables):
    for f in range(len(program)):
        found = fault_of(program, f, tables)
        if found is not None:
            return found
    return None
