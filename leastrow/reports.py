"""Reports: the asks of a text and their answers."""

from leastrow.asks import begins_as_ask
from leastrow.asks import read_ask
from leastrow.cheaper import cheaper_from
from leastrow.errors import NoText
from leastrow.examples import wish_of
from leastrow.least import first_that_does
from leastrow.rows import price_of
from leastrow.shelves import Shelf
from leastrow.stocktexts import read_lines


def show_row(stock, row):
    words = ["row"] + [str(number) for number in row] + ["price", str(price_of(stock, row))]
    return " ".join(words)


def answer_least(shelf, bound, examples):
    wish = wish_of(shelf.size, examples)
    found = first_that_does(shelf.size, shelf.book_up_to(bound), wish)
    return "none" if found is None else show_row(shelf.stock, found[1])


def answer_cheap(shelf, width, looked, row):
    told = cheaper_from(shelf, row, looked, width)
    return show_row(shelf.stock, told[0])


def answer_of(shelf, ask):
    if ask[0] == "least":
        return answer_least(shelf, ask[1], ask[2])
    return answer_cheap(shelf, ask[1], ask[2], ask[3])


# The first line is the size's, whatever it begins with.
def first_ask(lines):
    for number, line in enumerate(lines):
        if number > 0 and begins_as_ask(line):
            return number
    return len(lines)


def read_asks(size, stock, lines, first):
    asks = []
    for number in range(first, len(lines)):
        ask = read_ask(size, stock, lines[number])
        if ask is None:
            raise NoText(number)
        asks.append(ask)
    return asks


# All lines are read ahead of the first answer, since a line that isn't as told goes ahead of every other refusal.
def report(text):
    lines = text.split("\n")
    first = first_ask(lines)
    told = read_lines(lines[:first])
    if first == len(lines):
        raise NoText(first)
    asks = read_asks(told[0], told[1], lines, first)
    shelf = Shelf(told[0], told[1])
    return "\n".join([answer_of(shelf, ask) for ask in asks])
