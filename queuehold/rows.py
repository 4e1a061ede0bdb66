"""Rows as bytes, and bytes as rows."""

from queuehold.bounds import is_bytes, is_number
from queuehold.errors import BadRow, Broken

# A kind's place here, counted from 1, is its byte on the disk.
KINDS = ("put", "out", "done", "from", "part", "deal", "carried", "new")
HIGHEST_NUMBER = 999999
LONGEST_BODY = 60
HIGHEST_TIMES = 9
LARGEST_DEAL = 9

CHECKS_SIZE = 2
HEAD_SIZE = 7


def fits_kind(kind, body):
    if kind == "put" or kind == "part":
        return len(body) <= LONGEST_BODY
    if kind == "carried":
        return 1 <= len(body) <= 1 + LONGEST_BODY and body[0] <= HIGHEST_TIMES
    if kind == "deal":
        return len(body) == 1 and 1 <= body[0] <= LARGEST_DEAL
    return len(body) == 0


def is_row(thing):
    if not isinstance(thing, tuple) or len(thing) != 3:
        return False
    kind = thing[0]
    if not isinstance(kind, str) or kind not in KINDS:
        return False
    return is_number(thing[1], 0, HIGHEST_NUMBER) and is_bytes(thing[2]) and fits_kind(kind, thing[2])


def checks_of(behind):
    plain = sum(behind)
    weighed = sum([place * one for place, one in enumerate(behind, start=1)])
    return (plain % 256, weighed % 256)


def row_bytes(row):
    if not is_row(row):
        raise BadRow("this is no row")
    number = row[1]
    body = row[2]
    figures = (number // 65536, number // 256 % 256, number % 256)
    behind = (KINDS.index(row[0]) + 1,) + figures + (len(body),) + body
    return checks_of(behind) + behind


def row_end(some, start):
    # None where the row's own count of bytes, or a byte that it counts, is not there yet.
    if start + HEAD_SIZE > len(some):
        return None
    end = start + HEAD_SIZE + some[start + HEAD_SIZE - 1]
    return end if end <= len(some) else None


def row_from(whole):
    behind = whole[CHECKS_SIZE:]
    if whole[:CHECKS_SIZE] != checks_of(behind):
        raise Broken("a row's checks are others")
    if not 1 <= behind[0] <= len(KINDS):
        raise Broken("no kind of row has this byte")
    number = behind[1] * 65536 + behind[2] * 256 + behind[3]
    row = (KINDS[behind[0] - 1], number, whole[HEAD_SIZE:])
    if not is_row(row):
        raise Broken("a row's number or body is out of its bounds")
    return row


def rows_in(some):
    if not is_bytes(some):
        raise BadRow("rows are read from a tuple of numbers from 0 to 255")
    rows = []
    start = 0
    end = row_end(some, start)
    while end is not None:
        rows.append(row_from(some[start:end]))
        start = end
        end = row_end(some, start)
    return (rows, len(some) - start)
