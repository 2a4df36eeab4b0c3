"""The asks of a report, read from their lines; None is read from a line that is no ask."""

from leastrow.rows import is_row
from leastrow.sizes import is_box
from leastrow.sizes import is_word
from leastrow.stocktexts import read_number

ASK_WORDS = ("least", "cheap")
HIGHEST_BOUND = 40
MOST_EXAMPLES = 64
WIDEST = 4
MOST_STEPS = 12


def begins_as_ask(line):
    return line.split(" ")[0] in ASK_WORDS


def read_filling(size, parts):
    words = [read_number(part) for part in parts]
    if len(words) != size[1] or not all([is_word(size, word) for word in words]):
        return None
    return tuple(words)


# Where a star stands, a nought is read at first, so that the rest is held to be as in a filling.
def read_wanted(size, parts):
    filling = read_filling(size, ["0" if part == "*" else part for part in parts])
    if filling is None:
        return None
    return tuple([None if part == "*" else word for part, word in zip(parts, filling)])


def read_example(size, text):
    sides = text.partition("=")
    filling = read_filling(size, sides[0].split(","))
    wanted = read_wanted(size, sides[2].split(","))
    if filling is None or wanted is None:
        return None
    return (filling, wanted)


def read_least(size, words):
    if words[:2] != ["least", "bound"] or not 3 <= len(words) <= 3 + MOST_EXAMPLES:
        return None
    bound = read_number(words[2])
    examples = [read_example(size, word) for word in words[3:]]
    if bound is None or bound > HIGHEST_BOUND or None in examples:
        return None
    return ("least", bound, examples)


def read_boxes(size, words):
    boxes = [read_number(word) for word in words]
    if not all([is_box(size, box) for box in boxes]) or boxes != sorted(set(boxes)):
        return None
    return boxes


def read_row(stock, words):
    row = tuple([read_number(word) for word in words])
    if len(row) > MOST_STEPS or not is_row(stock, row):
        return None
    return row


def read_cheap(size, stock, words):
    rest = words[4:]
    if words[:2] != ["cheap", "width"] or words[3:4] != ["look"] or "row" not in rest:
        return None
    width = read_number(words[2])
    boxes = read_boxes(size, rest[:rest.index("row")])
    row = read_row(stock, rest[rest.index("row") + 1:])
    if width is None or not 1 <= width <= WIDEST or boxes is None or row is None:
        return None
    return ("cheap", width, boxes, row)


def read_ask(size, stock, line):
    words = line.split(" ")
    if words[0] == "least":
        return read_least(size, words)
    return read_cheap(size, stock, words)
