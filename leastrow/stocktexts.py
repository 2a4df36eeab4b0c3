"""Stocks as texts: a size and a stock written as lines, and read back from them."""

from leastrow.errors import NoText
from leastrow.sizes import is_size
from leastrow.stocks import is_stock

FIGURES = "0123456789"
MOST_FIGURES = 2


def show_size(size):
    bits = size[0]
    boxes = size[1]
    return f"bits {bits} boxes {boxes}"


def show_priced_step(step, price):
    return " ".join([str(part) for part in step] + ["price", str(price)])


def show_stock(size, stock):
    return "\n".join([show_size(size)] + [show_priced_step(step, price) for step, price in stock])


# No number that may stand in a text has more figures than these, and of thousands of them Python reads none.
def read_number(word):
    if not 1 <= len(word) <= MOST_FIGURES:
        return None
    if not all([sign in FIGURES for sign in word]):
        return None
    if word[0] == "0" and word != "0":
        return None
    return int(word)


# What isn't written as told is read as something that is no size; so it is for is_size to say.
def read_size(line):
    words = line.split(" ")
    if len(words) != 4 or words[0] != "bits" or words[2] != "boxes":
        return None
    return (read_number(words[1]), read_number(words[3]))


# Here, too: without a price, or with a number that is none, it is nothing that stands in a stock.
def read_priced_step(line):
    parts = line.partition(" price ")
    words = parts[0].split(" ")
    step = (words[0],) + tuple([read_number(word) for word in words[1:]])
    return (step, read_number(parts[2]))


# A line is as told just where what is read up to it is a stock: a ninth step or one told again makes it none.
def read_lines(lines):
    size = read_size(lines[0])
    if not is_size(size):
        raise NoText(0)
    if len(lines) == 1:
        raise NoText(1)
    stock = []
    for line in lines[1:]:
        stock.append(read_priced_step(line))
        if not is_stock(size, stock):
            raise NoText(len(stock))
    return (size, stock)


def read_stock(text):
    return read_lines(text.split("\n"))
