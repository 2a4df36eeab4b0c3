"""Steps: which there are, what they make of a filling, which boxes they write and read."""

from leastrow.sizes import is_box
from leastrow.sizes import is_word
from leastrow.sizes import word_count

BY_ANOTHER = ("and", "or", "xor", "add", "take", "copy")
BY_ITSELF = ("not", "up", "down")


def is_step(size, thing):
    if not isinstance(thing, tuple) or len(thing) < 2:
        return False
    if not is_box(size, thing[1]):
        return False
    if thing[0] in BY_ITSELF:
        return len(thing) == 2
    if len(thing) != 3:
        return False
    if thing[0] == "put":
        return is_word(size, thing[2])
    return thing[0] in BY_ANOTHER and is_box(size, thing[2])


def word_by_itself(name, count, word):
    if name == "not":
        return count - 1 - word
    if name == "up":
        return word * 2 % count
    return word // 2


def word_by_another(name, count, word, other):
    if name == "and":
        return word & other
    if name == "or":
        return word | other
    if name == "xor":
        return word ^ other
    if name == "add":
        return (word + other) % count
    if name == "take":
        return (word - other) % count
    return other


def new_word(size, step, filling):
    name = step[0]
    if name == "put":
        return step[2]
    word = filling[step[1]]
    if name in BY_ITSELF:
        return word_by_itself(name, word_count(size), word)
    return word_by_another(name, word_count(size), word, filling[step[2]])


def step_on(size, step, filling):
    box = written_box(step)
    return filling[:box] + (new_word(size, step, filling),) + filling[box + 1:]


def written_box(step):
    return step[1]


def boxes_read(step):
    if step[0] == "put":
        return []
    if step[0] == "copy":
        return [step[2]]
    return sorted(set(step[1:]))
