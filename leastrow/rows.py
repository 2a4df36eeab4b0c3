"""Rows of a stock's steps: what they cost, what they make of a filling, which of two is less."""

from leastrow.sizes import is_whole
from leastrow.steps import step_on


# A number below nought would count from the stock's end for Python, but tells no step here.
def is_row(stock, numbers):
    return all([is_whole(number) and 0 <= number < len(stock) for number in numbers])


def price_of(stock, row):
    return sum([stock[number][1] for number in row])


def row_on(size, stock, row, filling):
    made = filling
    for number in row:
        made = step_on(size, stock[number][0], made)
    return made


def rank_of(stock, row):
    return (price_of(stock, row), len(row), row)


def is_less(stock, one, other):
    return rank_of(stock, one) < rank_of(stock, other)
