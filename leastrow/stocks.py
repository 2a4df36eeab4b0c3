"""Stocks: the steps that may be taken, each with its price."""

from leastrow.sizes import is_whole
from leastrow.steps import is_step

MOST_STEPS = 8
HIGHEST_PRICE = 9


def is_price(thing):
    return is_whole(thing) and 1 <= thing <= HIGHEST_PRICE


def is_priced_step(size, thing):
    if not isinstance(thing, tuple) or len(thing) != 2:
        return False
    return is_step(size, thing[0]) and is_price(thing[1])


# That no step stands twice is asked last: of other things than steps no set can be made.
def is_stock(size, thing):
    if not isinstance(thing, list) or not 1 <= len(thing) <= MOST_STEPS:
        return False
    if not all([is_priced_step(size, part) for part in thing]):
        return False
    return len(set([part[0] for part in thing])) == len(thing)
