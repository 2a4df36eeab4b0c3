"""Windows of a row: what may stand in their place, and the least row that costs less there."""

from leastrow.errors import NoWindow
from leastrow.least import first_that_does
from leastrow.rows import price_of
from leastrow.shelves import Shelf
from leastrow.sizes import fillings
from leastrow.tables import boxes_looked_at
from leastrow.tables import table_of
from leastrow.tables import words_in


def is_window(row, place, many):
    return place >= 0 and many >= 1 and place + many <= len(row)


def steps_at(row, place, many):
    return row[place:place + many]


def words_told(boxes, table):
    return [tuple(words_in(boxes, filling)) for filling in table]


def fillings_by_words(size, words):
    gathered = {}
    for number, filling in enumerate(fillings(size)):
        gathered.setdefault(words[number], []).append(filling)
    return gathered


# What the window makes of a filling is brought further by the steps behind it: so the row from the window on tells it.
def wish_at(size, stock, row, place, many, looked=None):
    if not is_window(row, place, many):
        raise NoWindow("no such window of the row")
    boxes = boxes_looked_at(size, looked)
    ahead = table_of(size, stock, row[:place])
    alike = fillings_by_words(size, words_told(boxes, table_of(size, stock, row[place + many:])))
    words = words_told(boxes, table_of(size, stock, row[place:]))
    every = fillings(size)
    return [list(alike[words[number]]) if filling in ahead else None for number, filling in enumerate(every)]


def piece_from(shelf, row, place, many, looked):
    wish = wish_at(shelf.size, shelf.stock, row, place, many, looked)
    price = price_of(shelf.stock, steps_at(row, place, many))
    found = first_that_does(shelf.size, shelf.book_up_to(price - 1), wish)
    return None if found is None else found[1]


def piece_for(size, stock, row, place, many, looked=None):
    return piece_from(Shelf(size, stock), row, place, many, looked)
