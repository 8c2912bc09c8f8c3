"""A program's text: shown and read."""

from knownholds.errors import NoText
from knownholds.rows import parts_of

FIGURES = "0123456789"
MOST_FIGURES = 60


def read_whole(text, most):
    figures = text[1:] if text.startswith("-") else text
    if not 1 <= len(figures) <= most or not all([sign in FIGURES for sign in figures]):
        raise NoText(f"no whole number of one to {most} figures: {text!r}")
    if figures[0] == "0" and text != "0":
        raise NoText(f"a 0 stands ahead, or a - ahead of 0: {text!r}")
    return int(text)


def shown_row(row):
    parts = [row[0]]
    for part in row[1:]:
        if isinstance(part, tuple):
            parts.extend([str(q) for q in part])
        else:
            parts.append(str(part))
    return " ".join(parts)


def shown(program):
    lines = []
    for takes, gives, words, rows in program:
        letters = takes if takes else "-"
        lines.append(f"def {letters} {gives} {words}")
        lines.extend([shown_row(row) for row in rows])
    return "\n".join(lines)


def read_takes(part):
    if part == "-":
        return ""
    if part == "" or not all([letter in "nh" for letter in part]):
        raise NoText(f"a def takes - or letters n and h: {part!r}")
    return part


def read_head(parts):
    if len(parts) != 4:
        raise NoText("a head is def, what it takes, what it gives, its words")
    gives = parts[2]
    if gives not in ("n", "h"):
        raise NoText(f"a def gives n or h: {gives!r}")
    return (read_takes(parts[1]), gives, read_whole(parts[3], MOST_FIGURES), [])


def read_row(parts):
    word = parts[0]
    kinds = parts_of(word)
    if kinds is None:
        raise NoText(f"no word of a row: {word!r}")
    numbers = [read_whole(part, MOST_FIGURES) for part in parts[1:]]
    if word == "call" and len(numbers) >= 2:
        return (word, numbers[0], numbers[1], tuple(numbers[2:]))
    if word == "call" or len(numbers) != len(kinds):
        raise NoText(f"not as many numbers as {word} has")
    return tuple([word] + numbers)


def read(text):
    program = []
    for line in text.split("\n"):
        parts = line.split(" ")
        if parts[0] == "def":
            program.append(read_head(parts))
        elif program:
            program[-1][3].append(read_row(parts))
        else:
            raise NoText("the first row of text is no head")
    return program
