"""Tables: what comes of each filling, and where two tables part."""

from leastrow.rows import row_on
from leastrow.sizes import fillings
from leastrow.sizes import number_of


def table_of(size, stock, row):
    return tuple([row_on(size, stock, row, filling) for filling in fillings(size)])


def table_behind(size, one, other):
    return tuple([other[number_of(size, filling)] for filling in one])


def boxes_looked_at(size, looked):
    if looked is None:
        return list(range(size[1]))
    return list(looked)


def words_in(boxes, filling):
    return [filling[box] for box in boxes]


def parts_at(size, one, other, looked=None):
    boxes = boxes_looked_at(size, looked)
    for number, filling in enumerate(fillings(size)):
        if words_in(boxes, one[number]) != words_in(boxes, other[number]):
            return filling
    return None
