"""Packs: a table packed into a whole number, and unpacked."""

from knownholds.errors import NoTable
from knownholds.forms import table_formed

# The bits of a number that tell holds: one for each place that a def may have.
PLACES = 24
# A half is a digit by 1024 above them: s and b of five bits each, and 1 more, so that no digit is 0.
DIGIT_BITS = 10
PLACE_BITS = 5


def pack(holds, halves):
    number = sum([1 << p for p in holds])
    for k, half in enumerate(halves):
        digit = (half[0] << PLACE_BITS | half[1]) + 1
        number += digit << (PLACES + DIGIT_BITS * k)
    return number


def unpack_halves(digits):
    halves = []
    while digits > 0:
        digit = digits & ((1 << DIGIT_BITS) - 1)
        if digit == 0:
            raise NoTable("a digit 0 stands below another one")
        halves.append(((digit - 1) >> PLACE_BITS, (digit - 1) & ((1 << PLACE_BITS) - 1)))
        digits = digits >> DIGIT_BITS
    return halves


def unpack(number):
    if number < 0:
        raise NoTable(f"below 0: {number}")
    holds = [p for p in range(PLACES) if number >> p & 1]
    halves = unpack_halves(number >> PLACES)
    if not table_formed(holds, halves, 0, PLACES):
        raise NoTable(f"not the packing of a table: {number}")
    return (holds, halves)
