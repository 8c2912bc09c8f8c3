"""The least tables: at each stop just those holds and halves that are needed across it."""

from knownholds.kinds import is_spot, kinds_of
from knownholds.needs import needed, needed_across
from knownholds.rows import stops_of


def least_table(kinds, across):
    halves = [(s, kinds[s]) for s in across if is_spot(kinds[s])]
    holds = [p for p in across if kinds[p] == "h"]
    # A spot is put right by as much as its thing is brought, so the hold of that is told though no row uses it.
    return (sorted(set(holds + [b for s, b in halves])), halves)


def least(program):
    known = [kinds_of(program, f, None) for f in range(len(program))]
    ahead = [needed(program, f) for f in range(len(program))]
    tables = []
    for f, at in stops_of(program):
        told = ([], [])
        if known[f][at] is not None:
            told = least_table(known[f][at], needed_across(program[f][3], at, ahead[f]))
        tables.append((f, at, told[0], told[1]))
    return tables
