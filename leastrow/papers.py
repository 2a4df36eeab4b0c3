"""Papers: whether a list, whoever wrote it, holds as a book up to a bound."""

from leastrow.books import moves_of
from leastrow.books import numbers_behind
from leastrow.books import table_from
from leastrow.rows import is_row
from leastrow.rows import price_of
from leastrow.sizes import fillings


def numbers_of_row(moves, row, start):
    numbers = start
    for place in row:
        numbers = numbers_behind(numbers, moves[place][1])
    return numbers


def is_priced_row(stock, bound, price, row):
    return is_row(stock, row) and price == price_of(stock, row) and price <= bound


# A table is held against what its row makes, so one that tells a filling that there isn't never gets further.
def prices_by_numbers(size, stock, moves, bound, book):
    every = fillings(size)
    prices = {}
    for price, row, table in book:
        if not is_priced_row(stock, bound, price, row):
            return None
        numbers = numbers_of_row(moves, row, tuple(range(len(every))))
        if numbers in prices or table != table_from(every, numbers):
            return None
        prices[numbers] = price
    return prices


def stands_there(prices, numbers, most):
    return numbers in prices and prices[numbers] <= most


def is_closed(moves, bound, prices):
    for numbers in prices:
        for more, move in moves:
            price = prices[numbers] + more
            if price <= bound and not stands_there(prices, numbers_behind(numbers, move), price):
                return False
    return True


# Below nought not even the row without steps is cheap enough, so there just the list without entries holds.
def has_start(bound, book):
    return bound < 0 or any([row == () for price, row, table in book])


def holds(size, stock, bound, book):
    moves = moves_of(size, stock)
    prices = prices_by_numbers(size, stock, moves, bound, book)
    if prices is None or not has_start(bound, book):
        return False
    return is_closed(moves, bound, prices)
