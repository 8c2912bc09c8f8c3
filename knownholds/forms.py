"""When a program is formed: its numbers within their bounds, each row with just its parts; and when a table is."""

from knownholds.rows import BOXES, parts_of

MOST_DEFS = 8
MOST_TAKEN = 6
MOST_WORDS = 16
MOST_ROWS = 40


def is_whole(part):
    return isinstance(part, int) and not isinstance(part, bool)


def is_below(part, bound):
    return is_whole(part) and 0 <= part < bound


def are_places(part, bound):
    return isinstance(part, tuple) and all([is_below(place, bound) for place in part])


def part_formed(program, f, kind, part):
    places = BOXES + program[f][2]
    if kind == "n":
        return is_whole(part)
    if kind == "q":
        return are_places(part, places)
    if kind == "p":
        return is_below(part, places)
    if kind == "k":
        return is_below(part, 10)
    if kind == "t":
        return is_below(part, len(program[f][3]))
    return is_below(part, len(program))


def row_formed(program, f, row):
    # A row without any part has no word either.
    kinds = parts_of(row[0]) if row else None
    if kinds is None or len(row) != 1 + len(kinds):
        return False
    if not all([part_formed(program, f, kind, part) for kind, part in zip(kinds, row[1:])]):
        return False
    return row[0] != "call" or len(row[3]) == len(program[row[2]][0])


def head_formed(program, f):
    takes = program[f][0]
    gives = program[f][1]
    # Def 0 is begun with numbers and tells one, so it takes and gives no holds.
    letters = ("n",) if f == 0 else ("n", "h")
    if len(takes) > MOST_TAKEN or not all([letter in letters for letter in takes]):
        return False
    return gives in letters and is_below(program[f][2], MOST_WORDS + 1)


def def_formed(program, f):
    rows = program[f][3]
    if not head_formed(program, f) or not 1 <= len(rows) <= MOST_ROWS:
        return False
    if not all([row_formed(program, f, row) for row in rows]):
        return False
    return rows[-1][0] in ("jump", "back")


def formed(program):
    if not 1 <= len(program) <= MOST_DEFS:
        return False
    return all([def_formed(program, f) for f in range(len(program))])


def rises(numbers):
    return all([lesser < greater for lesser, greater in zip(numbers, numbers[1:])])


# Whether holds and halves are a table of places from first on and below bound.
def table_formed(holds, halves, first, bound):
    spots = [s for s, b in halves]
    if not rises(holds) or not rises(spots):
        return False
    if any([s in holds for s in spots]) or not all([b in holds for s, b in halves]):
        return False
    return all([first <= p < bound for p in holds + spots])
