"""Sizes, and the words, boxes and fillings that a size has."""

MOST_BITS = 6


# A truth is an int for Python, but no whole number here.
def is_whole(thing):
    return isinstance(thing, int) and not isinstance(thing, bool)


def is_size(thing):
    if not isinstance(thing, tuple) or len(thing) != 2:
        return False
    bits = thing[0]
    boxes = thing[1]
    if not is_whole(bits) or not is_whole(boxes):
        return False
    return bits >= 1 and boxes >= 1 and bits * boxes <= MOST_BITS


# A loop, since no power is taken here whose exponent isn't written out.
def word_count(size):
    count = 1
    for bit in range(size[0]):
        count = count * 2
    return count


def is_word(size, thing):
    return is_whole(thing) and 0 <= thing < word_count(size)


def is_box(size, thing):
    return is_whole(thing) and 0 <= thing < size[1]


def with_each_word(starts, count):
    longer = []
    for start in starts:
        longer.extend([start + (word,) for word in range(count)])
    return longer


# Rising starts, each with its words rising, stay in rising order, so nothing is sorted.
def fillings(size):
    count = word_count(size)
    told = [()]
    for box in range(size[1]):
        told = with_each_word(told, count)
    return told


# In rising order the words of a filling are the figures of its number, the first box's the highest.
def number_of(size, filling):
    count = word_count(size)
    number = 0
    for word in filling:
        number = number * count + word
    return number
