"""Examples: the wish that comes of them."""

from leastrow.errors import NoWish
from leastrow.sizes import fillings


def both_words(one, other):
    if one is None:
        return other
    if other is None or other == one:
        return one
    raise NoWish("two examples want unlike words of one box")


def both_wanted(one, other):
    return tuple([both_words(word, another) for word, another in zip(one, other)])


def wanted_by_filling(examples):
    gathered = {}
    for filling, wanted in examples:
        gathered[filling] = both_wanted(gathered.get(filling, wanted), wanted)
    return gathered


def has_wanted(filling, wanted):
    return all([want is None or word == want for word, want in zip(filling, wanted)])


def choice_of(size, wanted):
    if all([want is None for want in wanted]):
        return None
    return [filling for filling in fillings(size) if has_wanted(filling, wanted)]


def wish_of(size, examples):
    gathered = wanted_by_filling(examples)
    return [choice_of(size, gathered.get(filling, ())) for filling in fillings(size)]
