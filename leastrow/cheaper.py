"""Rows made cheaper, window by window, and changes gone through."""

from leastrow.errors import NoChange
from leastrow.rows import is_row
from leastrow.rows import price_of
from leastrow.shelves import Shelf
from leastrow.tables import parts_at
from leastrow.tables import table_of
from leastrow.windows import is_window
from leastrow.windows import piece_from
from leastrow.windows import steps_at


def with_change(row, change):
    place = change[0]
    return row[:place] + change[2] + row[place + change[1]:]


def tells_the_same(size, stock, one, other, looked):
    return parts_at(size, table_of(size, stock, one), table_of(size, stock, other), looked) is None


def may_be_made(size, stock, row, change, looked):
    piece = change[2]
    if not is_window(row, change[0], change[1]) or not is_row(stock, piece):
        return False
    if price_of(stock, piece) >= price_of(stock, steps_at(row, change[0], change[1])):
        return False
    return tells_the_same(size, stock, row, with_change(row, change), looked)


def gone_through(size, stock, row, changes, looked=None):
    made = row
    for at, change in enumerate(changes):
        if not may_be_made(size, stock, made, change, looked):
            raise NoChange(at)
        made = with_change(made, change)
    return made


def first_change(shelf, row, looked, width):
    for many in range(1, width + 1):
        for place in range(len(row) - many + 1):
            piece = piece_from(shelf, row, place, many, looked)
            if piece is not None:
                return (place, many, piece)
    return None


def is_cheap(size, stock, row, looked=None, width=2):
    return first_change(Shelf(size, stock), row, looked, width) is None


# Each change makes the row cheaper, so there is a last one.
def cheaper_from(shelf, row, looked, width):
    made = row
    changes = []
    change = first_change(shelf, made, looked, width)
    while change is not None:
        changes.append(change)
        made = with_change(made, change)
        change = first_change(shelf, made, looked, width)
    return (made, changes)


def made_cheaper(size, stock, row, looked=None, width=2):
    return cheaper_from(Shelf(size, stock), row, looked, width)
