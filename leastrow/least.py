"""Least rows: the least one that does a wish, and the books that show that none is cheaper."""

from leastrow.books import book_of
from leastrow.papers import holds
from leastrow.wishes import does_wish


# A book's rows rise and each is the least one that makes its table, so the first that does is the least of all.
def first_that_does(size, book, wish):
    for entry in book:
        if does_wish(size, wish, entry[2]):
            return entry
    return None


def least_row(size, stock, bound, wish):
    book = book_of(size, stock, bound)
    found = first_that_does(size, book, wish)
    if found is None:
        return ("none", book)
    return ("row", found[1], [entry for entry in book if entry[0] < found[0]])


def shows_none(size, stock, bound, wish, book):
    return holds(size, stock, bound, book) and first_that_does(size, book, wish) is None
