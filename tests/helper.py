"""What several tests need: sizes, steps and stocks, things of every other kind, and looks at what is handed and told."""

import itertools

SIZES = [
    (1, 1), (1, 2), (1, 3), (1, 4), (1, 5), (1, 6),
    (2, 1), (2, 2), (2, 3),
    (3, 1), (3, 2),
    (4, 1), (5, 1), (6, 1),
]

PAIR_WORDS = ["and", "or", "xor", "add", "take", "copy"]
LONE_WORDS = ["not", "up", "down"]
STEP_WORDS = PAIR_WORDS + ["put"] + LONE_WORDS


def all_steps(size):
    bits, boxes = size
    steps = []
    for i in range(boxes):
        steps += [(word, i, j) for word in PAIR_WORDS for j in range(boxes)]
        steps += [("put", i, n) for n in range(2 ** bits)]
        steps += [(word, i) for word in LONE_WORDS]
    return steps


def some_stocks(size):
    """Stocks of one step to eight, with prices from 1 to 9, of steps from all over the size."""
    steps = all_steps(size)
    stocks = [[(steps[0], 1)], [(steps[-1], 9)]]
    for many in range(1, 9):
        apart = len(steps) // many
        stocks.append([(step, 1 + (many * place + 4) % 9) for place, step in enumerate(steps[::apart][:many])])
        stocks.append([(step, 1 + place % 3) for place, step in enumerate(steps[::-apart][:many])])
    return stocks


def some_rows(stock):
    """Rows without steps, of one step, of a few, and of forty."""
    many = len(stock)
    return [
        (), (0,), (many - 1,), (0, many - 1), (many - 1, 0), tuple(range(many)), tuple(range(many))[::-1],
        (0,) * 40, (many - 1,) * 40, tuple(place * 3 % many for place in range(40)),
    ]


def every_filling(size):
    return list(itertools.product(range(2 ** size[0]), repeat=size[1]))


def some_tables(size):
    """Tables that no row need make: each filling itself, turned about, one for all, and mixed ones."""
    every = every_filling(size)
    many = len(every)
    mixed = [tuple(every[(place * place + shift) % many] for place in range(many)) for shift in range(3)]
    return [tuple(every), tuple(every[::-1]), tuple(every[1:] + every[:1]), (every[-1],) * many] + mixed


def looked_at(size):
    """Every list of boxes that may be looked at, and None."""
    boxes = range(size[1])
    return [None] + [list(some) for many in range(size[1] + 1) for some in itertools.combinations(boxes, many)]


def no_whole_numbers():
    """Things of every kind that are no whole number, made anew each time."""
    return [
        None, True, False, 0.0, 1.0, 2.5, float("inf"), float("nan"), 1j,
        "", "0", "1", "and", [], [0], [1], [1, 2], (), (0,), (1,), (1, 2), {}, {0: 1}, {"1": [1]},
    ]


def no_tuples():
    """Things of every kind that are no tuple, made anew each time."""
    others = [thing for thing in no_whole_numbers() if not isinstance(thing, tuple)]
    return others + [0, 1, -1, 6, 10 ** 100, "not 0", [[]], [()], [None], {(1, 1): (1, 1)}]


def lists_within(thing):
    """Every list in a thing, the thing itself included, each as often as it stands there."""
    if not isinstance(thing, (list, tuple)):
        return []
    inner = [found for part in thing for found in lists_within(part)]
    return inner + [thing] if isinstance(thing, list) else inner


def same_kinds(one, other):
    """Equal, and written alike: so that 1 isn't True, nor a list a tuple."""
    return one == other and repr(one) == repr(other)


def told_of(test, asked, *handed):
    """What is told; seen to that what is handed in stays, that it is told again, and that lists are the asker's own."""
    before = repr(handed)
    first = asked(*handed)
    again = asked(*handed)
    test.assertEqual(repr(handed), before, asked)
    wanted = repr(first)
    test.assertEqual(repr(again), wanted, (asked, before))
    lists = lists_within(first) + lists_within(again)
    places = {id(found) for found in lists}
    test.assertEqual(len(places), len(lists), (asked, before))
    test.assertFalse(places & {id(found) for found in lists_within(handed)}, (asked, before))
    for found in lists:
        found.clear()
        found.append("spoiled")
    test.assertEqual(repr(handed), before, asked)
    told = asked(*handed)
    test.assertEqual(repr(told), wanted, (asked, before))
    return told
