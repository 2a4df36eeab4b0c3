"""Books: for each table that rows up to a bound make, the least row that makes it."""

from leastrow.errors import TooGreat
from leastrow.sizes import fillings
from leastrow.sizes import number_of
from leastrow.steps import step_on

MOST_TABLES = 500


# Within a search a table tells numbers of fillings, so that a step behind it is looked up, not done anew.
def numbers_of_step(size, step):
    return tuple([number_of(size, step_on(size, step, filling)) for filling in fillings(size)])


def moves_of(size, stock):
    return [(price, numbers_of_step(size, step)) for step, price in stock]


def numbers_behind(one, other):
    return tuple([other[number] for number in one])


def put_longer_rows(waiting, moves, bound, rank, row, numbers):
    for place, move in enumerate(moves):
        price = rank[0] + move[0]
        if price <= bound:
            longer = (row + (place,), numbers_behind(numbers, move[1]))
            waiting.setdefault((price, rank[1] + 1), []).append(longer)


# What stands ahead of the last step of a least row is a least row itself: were another one less, it would be so
# with that step behind it, too. So only the rows that are found are made longer. They wait by price and length, and
# those of one price and length are sorted, so that each comes up in the order of the rows.
def found_rows(moves, bound, start):
    waiting = {}
    if bound >= 0:
        waiting[(0, 0)] = [((), start)]
    known = {}
    found = []
    while len(waiting) > 0:
        rank = min(list(waiting))
        ready = sorted(waiting.pop(rank))
        for row, numbers in ready:
            if numbers not in known:
                known[numbers] = True
                found.append((rank[0], row, numbers))
                put_longer_rows(waiting, moves, bound, rank, row, numbers)
            if len(found) > MOST_TABLES:
                raise TooGreat("the book has more than five hundred tables")
    return found


def table_from(every, numbers):
    return tuple([every[number] for number in numbers])


def book_of(size, stock, bound):
    every = fillings(size)
    found = found_rows(moves_of(size, stock), bound, tuple(range(len(every))))
    return [(price, row, table_from(every, numbers)) for price, row, numbers in found]
