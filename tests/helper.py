"""What several tests need: sizes, steps and stocks, things of every other kind, and looks at what is handed and told."""

import itertools
import random

from leastrow.steps import step_on

SIZES = [
    (1, 1), (1, 2), (1, 3), (1, 4), (1, 5), (1, 6),
    (2, 1), (2, 2), (2, 3),
    (3, 1), (3, 2),
    (4, 1), (5, 1), (6, 1),
]

PAIR_WORDS = ["and", "or", "xor", "add", "take", "copy"]
LONE_WORDS = ["not", "up", "down"]
STEP_WORDS = PAIR_WORDS + ["put"] + LONE_WORDS

# Up to 34 it makes just five hundred tables, up to 35 one more.
FIVE_HUNDRED = [(("take", 2, 1), 4), (("take", 1, 0), 1), (("take", 1, 1), 9), (("add", 1, 2), 4), (("take", 0, 1), 5)]

# However dear a row may be, it makes one of five hundred tables.
CLOSED = [
    (("copy", 0, 2), 1), (("down", 2), 3), (("xor", 0, 1), 2), (("add", 0, 0), 8), (("add", 1, 1), 7), (("up", 1), 1),
    (("or", 1, 0), 3), (("copy", 1, 2), 1),
]

# Up to 30 it makes just six hundred tables, up to 26 fewer than five hundred, up to 27 more.
SIX_HUNDRED = [(("add", 1, 2), 3), (("or", 0, 1), 4), (("xor", 1, 0), 4), (("and", 2, 1), 2)]


def all_steps(size):
    bits, boxes = size
    steps = []
    for i in range(boxes):
        steps += [(word, i, j) for word in PAIR_WORDS for j in range(boxes)]
        steps += [("put", i, n) for n in range(2 ** bits)]
        steps += [(word, i) for word in LONE_WORDS]
    return steps


def size_lines():
    return {f"bits {bits} boxes {boxes}": (bits, boxes) for bits, boxes in SIZES}


def step_lines(size):
    """Every line of a step that the size has, written out."""
    lines = {}
    for step in all_steps(size):
        numbers = " ".join(str(number) for number in step[1:])
        for price in "123456789":
            lines[f"{step[0]} {numbers} price {price}"] = step
    return lines


LINES_OF = {size: step_lines(size) for size in SIZES}


def with_one_sign_other(text):
    """The text with each sign left out, and with each of some signs ahead of it or in its place."""
    signs = [" ", "\n", "0", "1", "2", "9", "a", "n", "p", "-", "+", "_", ".", ",", "~"]
    for place in range(len(text) + 1):
        yield text[:place] + text[place + 1:]
        for sign in signs:
            yield text[:place] + sign + text[place:]
            yield text[:place] + sign + text[place + 1:]


def some_stocks(size):
    """Stocks of one step to eight, with prices from 1 to 9, of steps from all over the size."""
    steps = all_steps(size)
    stocks = [[(steps[0], 1)], [(steps[-1], 9)]]
    for many in range(1, 9):
        apart = len(steps) // many
        stocks.append([(step, 1 + (many * place + 4) % 9) for place, step in enumerate(steps[::apart][:many])])
        stocks.append([(step, 1 + place % 3) for place, step in enumerate(steps[::-apart][:many])])
    return stocks


def small_stock(size):
    """A stock of five steps of which windows of few steps have small books."""
    last = size[1] - 1
    return [(("not", 0), 2), (("copy", last, 0), 3), (("put", 0, 1), 4), (("up", last), 1), (("and", last, 0), 2)]


def some_rows(stock):
    """Rows without steps, of one step, of a few, and of forty."""
    many = len(stock)
    return [
        (), (0,), (many - 1,), (0, many - 1), (many - 1, 0), tuple(range(many)), tuple(range(many))[::-1],
        (0,) * 40, (many - 1,) * 40, tuple(place * 3 % many for place in range(40)),
    ]


def every_filling(size):
    return list(itertools.product(range(2 ** size[0]), repeat=size[1]))


def some_tables(size):
    """Tables that no row need make: each filling itself, turned about, one for all, and mixed ones."""
    every = every_filling(size)
    many = len(every)
    mixed = [tuple(every[(place * place + shift) % many] for place in range(many)) for shift in range(3)]
    return [tuple(every), tuple(every[::-1]), tuple(every[1:] + every[:1]), (every[-1],) * many] + mixed


def looked_at(size):
    """Every list of boxes that may be looked at, and None."""
    boxes = range(size[1])
    return [None] + [list(some) for many in range(size[1] + 1) for some in itertools.combinations(boxes, many)]


def no_whole_numbers():
    """Things of every kind that are no whole number, made anew each time."""
    return [
        None, True, False, 0.0, 1.0, 2.5, float("inf"), float("nan"), 1j,
        "", "0", "1", "and", [], [0], [1], [1, 2], (), (0,), (1,), (1, 2), {}, {0: 1}, {"1": [1]},
    ]


def no_tuples():
    """Things of every kind that are no tuple, made anew each time."""
    others = [thing for thing in no_whole_numbers() if not isinstance(thing, tuple)]
    return others + [0, 1, -1, 6, 10 ** 100, "not 0", [[]], [()], [None], {(1, 1): (1, 1)}]


def some_wishes(size):
    """Wishes of None alone, of all fillings, of one, and mixed ones."""
    every = every_filling(size)
    chance = random.Random(size[0] * 10 + size[1])
    wishes = [[None] * len(every), [list(every) for _ in every], [[filling] for filling in every], [[every[0]] for _ in every]]
    for _ in range(4):
        mixed = [sorted(chance.sample(every, chance.randint(1, len(every)))) for _ in every]
        wishes.append(mixed)
        wishes.append([None if chance.randrange(3) == 0 else list(some) for some in mixed])
    return wishes


def with_step(size, step, table):
    return tuple([step_on(size, step, filling) for filling in table])


def by_all_rows(size, stock, bound):
    """The book by going through each row up to the bound."""
    least = {}
    rows = [(0, 0, (), tuple(every_filling(size)))]
    while rows:
        price, many, row, table = rows.pop()
        least[table] = min(least.get(table, (price, many, row)), (price, many, row))
        for number, (step, more) in enumerate(stock):
            if price + more <= bound:
                rows.append((price + more, many + 1, row + (number,), with_step(size, step, table)))
    return [(price, row, table) for (price, _, row), table in sorted((rank, table) for table, rank in least.items())]


def prices_of_tables(size, stock, bound):
    """Each table with its least price, by what the rows of each price make; no row is kept."""
    moves = [(price, dict(zip(every_filling(size), with_step(size, step, every_filling(size))))) for step, price in stock]
    made = {0: {tuple(every_filling(size))}}
    prices = {}
    for price in range(bound + 1):
        for table in made.get(price, ()):
            prices.setdefault(table, price)
            for more, move in moves:
                made.setdefault(price + more, set()).add(tuple([move[filling] for filling in table]))
    return prices


def whole_book(size, stock, bound):
    """The book, however many tables it has, by what is ready at each price."""
    every = every_filling(size)
    moves = [dict(zip(every, with_step(size, step, every))) for step, _ in stock]
    ready = {0: [(0, (), tuple(every))]}
    least = {}
    for price in range(bound + 1):
        for many, row, table in sorted(ready.get(price, [])):
            if table in least:
                continue
            least[table] = (price, row, table)
            for number, move in enumerate(moves):
                longer = (many + 1, row + (number,), tuple([move[filling] for filling in table]))
                ready.setdefault(price + stock[number][1], []).append(longer)
    return list(least.values())


def piece_of(size, stock, row, place, many, looked, book):
    """The first row of the book in a window's place by which the whole row tells the same; None where there is none."""
    every = every_filling(size)
    boxes = range(size[1]) if looked is None else looked

    def seen(steps, fillings):
        for number in steps:
            fillings = with_step(size, stock[number][0], fillings)
        return fillings

    ahead = seen(row[:place], every)
    wanted = seen(row[place:], ahead)
    for _, piece, _ in book:
        told = seen(piece + row[place + many:], ahead)
        if all(one[box] == other[box] for one, other in zip(told, wanted) for box in boxes):
            return piece
    return None


def lists_within(thing):
    """Every list in a thing, the thing itself included, each as often as it stands there."""
    if not isinstance(thing, (list, tuple)):
        return []
    inner = [found for part in thing for found in lists_within(part)]
    return inner + [thing] if isinstance(thing, list) else inner


def same_kinds(one, other):
    """Equal, and written alike: so that 1 isn't True, nor a list a tuple."""
    return one == other and repr(one) == repr(other)


def told_of(test, asked, *handed):
    """What is told; seen to that what is handed in stays, that it is told again, and that lists are the asker's own."""
    before = repr(handed)
    first = asked(*handed)
    again = asked(*handed)
    test.assertEqual(repr(handed), before, asked)
    wanted = repr(first)
    test.assertEqual(repr(again), wanted, (asked, before))
    lists = lists_within(first) + lists_within(again)
    places = {id(found) for found in lists}
    test.assertEqual(len(places), len(lists), (asked, before))
    test.assertFalse(places & {id(found) for found in lists_within(handed)}, (asked, before))
    for found in lists:
        found.clear()
        found.append("spoiled")
    test.assertEqual(repr(handed), before, asked)
    told = asked(*handed)
    test.assertEqual(repr(told), wanted, (asked, before))
    return told
