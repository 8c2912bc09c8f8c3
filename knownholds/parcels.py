"""Parcels: a program with its tables as one text, made, opened and run."""

from knownholds.carried import carried
from knownholds.errors import Faulty, NotFormed, NoText
from knownholds.faults import fault, fit
from knownholds.forms import formed
from knownholds.packs import pack, unpack
from knownholds.rests import rested, told_rests
from knownholds.tables import least
from knownholds.texts import MOST_FIGURES, read, read_whole, shown

MOST_PACKED = 300


def refuse_unformed(program):
    if not formed(program):
        raise NotFormed("the program is not formed")


def refuse_faulty(program, tables):
    found = fault(program, tables)
    if found is not None:
        raise Faulty(found[0], found[1], found[2])


def shown_tables(tables):
    lines = []
    for f, at, holds, halves in tables:
        number = pack(holds, halves)
        lines.append(f"table {f} {at} {number}")
    return lines


def parcel_of(text):
    program = read(text)
    refuse_unformed(program)
    quiet = rested(program, [told_rests(one[3]) for one in program])
    # Rests leave all as it is but how many rows there are.
    refuse_unformed(quiet)
    refuse_faulty(program, None)
    return "\n".join([shown(quiet)] + shown_tables(least(quiet)))


def is_table_line(line):
    return line.split(" ")[0] == "table"


def read_table(line):
    parts = line.split(" ")
    if not is_table_line(line) or len(parts) != 4:
        raise NoText(f"no row of table and three numbers: {line!r}")
    f = read_whole(parts[1], MOST_FIGURES)
    return (f, read_whole(parts[2], MOST_FIGURES), read_whole(parts[3], MOST_PACKED))


def unpacked(f, at, number):
    lists = unpack(number)
    return (f, at, lists[0], lists[1])


def opened(parcel):
    lines = parcel.split("\n")
    first = 0
    while first < len(lines) and not is_table_line(lines[first]):
        first += 1
    program = read("\n".join(lines[:first]))
    packed = [read_table(line) for line in lines[first:]]
    refuse_unformed(program)
    tables = [unpacked(f, at, number) for f, at, number in packed]
    if not fit(program, tables):
        raise NotFormed("the tables do not fit the program")
    refuse_faulty(program, tables)
    return (program, tables)


def answer(parcel, inputs, most, when, start):
    both = opened(parcel)
    program = both[0]
    if len(inputs) != len(program[0][0]):
        raise NotFormed("not as many numbers as def 0 takes")
    told = carried(program, both[1], inputs, most, when, start)
    return " ".join([str(part) for part in told[1] + ["/"] + list(told[0])])
