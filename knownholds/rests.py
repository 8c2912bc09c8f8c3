"""Rests: rounds of rows that meet no rest or make, and rests put in so that each meets one."""

from knownholds.rows import nexts, reached


# The rows that a bare round may have.
def bare_rows(rows, some):
    return [at for at in reached(rows) if rows[at][0] not in ("make", "rest") and at not in some]


# A shortest round of row at and others of the bare rows, or None.
def round_through(rows, at, bare):
    met = {}
    ways = [[at]]
    while ways:
        longer = []
        for way in ways:
            after = nexts(rows, way[-1])
            if at in after:
                return way
            for t in [t for t in after if t in bare and t not in met]:
                met[t] = True
                longer.append(way + [t])
        ways = longer
    return None


def bare_round(rows, some):
    bare = bare_rows(rows, some)
    found = [round_through(rows, at, bare) for at in bare]
    # The shortest, so that few rows are to be tried where one of them must be a rest.
    return min([one for one in found if one is not None], key=len, default=None)


def told_rests(rows):
    told = []
    for at in sorted(bare_rows(rows, []), reverse=True):
        bare = [t for t in bare_rows(rows, told) if t >= at]
        if round_through(rows, at, bare) is not None:
            told.append(at)
    return sorted(told)


# The rows of some with at most so many more, so that no round is bare, or None: one row of a bare round must be told.
def rests_within(rows, some, more):
    bare = bare_round(rows, some)
    if bare is None:
        return some
    if more == 0:
        return None
    for at in bare:
        told = rests_within(rows, some + [at], more - 1)
        if told is not None:
            return told
    return None


def fewest(rows):
    more = 0
    told = rests_within(rows, [], more)
    while told is None:
        more += 1
        told = rests_within(rows, [], more)
    return sorted(told)


# What went on at row t goes on at its rest where it has one, so only rests at lesser rows bring t on.
def with_target(row, rests):
    if row[0] not in ("jump", "zero", "none", "same"):
        return row
    t = row[-1]
    return row[:-1] + (t + len([at for at in rests if at < t]),)


def rested_rows(rows, rests):
    fresh = []
    for at, row in enumerate(rows):
        if at in rests:
            fresh.append(("rest",))
        fresh.append(with_target(row, rests))
    return fresh


def rested(program, rests):
    fresh = []
    for f, one in enumerate(program):
        fresh.append((one[0], one[1], one[2], rested_rows(one[3], rests[f])))
    return fresh
