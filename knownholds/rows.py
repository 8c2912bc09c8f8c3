"""The rows of a program: which come next, what each uses and writes, which are stops."""

BOXES = 8

# For each word the parts of its row that are places used, with their kinds;
# call, back, look and lay are not here, for their kinds hang on the program or on the row.
USES = {
    "put": (),
    "nil": (),
    "copy": (),
    "plus": ((2, "n"), (3, "n")),
    "less": ((2, "n"), (3, "n")),
    "make": (),
    "fetch": ((2, "h"),),
    "read": ((2, "h"),),
    "hang": ((1, "h"), (3, "h")),
    "write": ((1, "h"), (3, "n")),
    "into": ((2, "h"),),
    "jump": (),
    "zero": ((1, "n"),),
    "none": ((1, "h"),),
    "same": ((1, "h"), (2, "h")),
    "tell": ((1, "n"),),
    "rest": (),
}

# For each word what the parts behind it are: p a place, n a number, k one from 0 to 9, t a row, f a def, q the q's.
PARTS = {
    "put": "pn",
    "nil": "p",
    "copy": "pp",
    "plus": "ppp",
    "less": "ppp",
    "make": "pkk",
    "fetch": "ppk",
    "read": "ppk",
    "hang": "pkp",
    "write": "pkp",
    "into": "ppk",
    "look": "ppp",
    "lay": "ppp",
    "jump": "t",
    "zero": "pt",
    "none": "pt",
    "same": "ppt",
    "call": "pfq",
    "back": "p",
    "tell": "p",
    "rest": "",
}

WRITERS = ("put", "nil", "copy", "plus", "less", "make", "fetch", "read", "into", "look", "call")


# None where the word is none of the table's.
def parts_of(word):
    return PARTS.get(word)


def nexts(rows, at):
    row = rows[at]
    if row[0] == "back":
        return []
    if row[0] == "jump":
        return [row[1]]
    if row[0] in ("zero", "none", "same"):
        return sorted(set([at + 1, row[-1]]))
    return [at + 1]


def uses(program, f, row):
    word = row[0]
    if word == "call":
        return list(zip(row[3], program[row[2]][0]))
    if word == "back":
        return [(row[1], program[f][1])]
    if word == "look":
        return [(row[2], row[3])]
    if word == "lay":
        return [(row[1], row[2]), (row[3], "n")]
    return [(row[part], kind) for part, kind in USES[word]]


def writes(row):
    return row[1] if row[0] in WRITERS else None


def is_stop(row):
    return row[0] in ("make", "rest", "call")


# The stops of each def, as pairs (f, at), sorted.
def stops_of(program):
    found = []
    for f in range(len(program)):
        found.extend([(f, at) for at, row in enumerate(program[f][3]) if is_stop(row)])
    return found


def places_of(program, f):
    return BOXES + program[f][2]


def reached(rows):
    met = {0: True}
    todo = [0]
    while todo:
        at = todo.pop()
        for t in nexts(rows, at):
            if t not in met:
                met[t] = True
                todo.append(t)
    return sorted(met)
