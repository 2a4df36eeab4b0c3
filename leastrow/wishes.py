"""Wishes: what may come of each filling, which tables do them, and how wishes stand to one another."""

from leastrow.errors import NoWish
from leastrow.sizes import fillings
from leastrow.tables import boxes_looked_at
from leastrow.tables import words_in


def misses_at(size, wish, table):
    for number, filling in enumerate(fillings(size)):
        if wish[number] is not None and table[number] not in wish[number]:
            return filling
    return None


def does_wish(size, wish, table):
    return misses_at(size, wish, table) is None


def fillings_like(size, boxes, filling):
    words = words_in(boxes, filling)
    return [other for other in fillings(size) if words_in(boxes, other) == words]


def wish_like(size, table, looked=None):
    boxes = boxes_looked_at(size, looked)
    if len(boxes) == 0:
        return [None for filling in table]
    return [fillings_like(size, boxes, filling) for filling in table]


def both_choices(one, other):
    if one is None and other is None:
        return None
    if one is None:
        return list(other)
    if other is None:
        return list(one)
    both = sorted(set(one) & set(other))
    if len(both) == 0:
        raise NoWish("nothing may come of a filling by both wishes")
    return both


def both_wishes(size, one, other):
    return [both_choices(one[number], other[number]) for number in range(len(fillings(size)))]


# A list of all fillings allows as much as None does.
def is_loose_choice(size, one, other):
    if one is None:
        return True
    if other is None:
        return len(one) == len(fillings(size))
    return len(set(other) - set(one)) == 0


# Each list has a filling, so some table does the other wish whatever is taken for one filling: each one counts alone.
def is_loose(size, one, other):
    return all([is_loose_choice(size, mine, theirs) for mine, theirs in zip(one, other)])
