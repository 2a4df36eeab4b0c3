"""What several tests need: sizes, steps and stocks, things of every other kind, and looks at what is handed and told."""

import copy

SIZES = [
    (1, 1), (1, 2), (1, 3), (1, 4), (1, 5), (1, 6),
    (2, 1), (2, 2), (2, 3),
    (3, 1), (3, 2),
    (4, 1), (5, 1), (6, 1),
]

PAIR_WORDS = ["and", "or", "xor", "add", "take", "copy"]
LONE_WORDS = ["not", "up", "down"]
STEP_WORDS = PAIR_WORDS + ["put"] + LONE_WORDS


def all_steps(size):
    bits, boxes = size
    steps = []
    for i in range(boxes):
        steps += [(word, i, j) for word in PAIR_WORDS for j in range(boxes)]
        steps += [("put", i, n) for n in range(2 ** bits)]
        steps += [(word, i) for word in LONE_WORDS]
    return steps


def some_stocks(size):
    """Stocks of one step to eight, with prices from 1 to 9, of steps from all over the size."""
    steps = all_steps(size)
    stocks = [[(steps[0], 1)], [(steps[-1], 9)]]
    for many in range(1, 9):
        apart = len(steps) // many
        stocks.append([(step, 1 + (many * place + 4) % 9) for place, step in enumerate(steps[::apart][:many])])
        stocks.append([(step, 1 + place % 3) for place, step in enumerate(steps[::-apart][:many])])
    return stocks


def no_whole_numbers():
    """Things of every kind that are no whole number, made anew each time."""
    return [
        None, True, False, 0.0, 1.0, 2.5, float("inf"), float("nan"), 1j,
        "", "0", "1", "and", [], [0], [1], [1, 2], (), (0,), (1,), (1, 2), {}, {0: 1}, {"1": [1]},
    ]


def no_tuples():
    """Things of every kind that are no tuple, made anew each time."""
    others = [thing for thing in no_whole_numbers() if not isinstance(thing, tuple)]
    return others + [0, 1, -1, 6, 10 ** 100, "not 0", [[]], [()], [None], {(1, 1): (1, 1)}]


def lists_within(thing):
    """Every list in a thing, the thing itself included, each as often as it stands there."""
    if isinstance(thing, dict):
        return [found for part in thing.values() for found in lists_within(part)]
    if not isinstance(thing, (list, tuple)):
        return []
    inner = [found for part in thing for found in lists_within(part)]
    return inner + [thing] if isinstance(thing, list) else inner


def same_kinds(one, other):
    """Equal, and of the same kinds all the way down: so that 1 isn't True, nor a list a tuple."""
    if type(one) is not type(other):
        return False
    if isinstance(one, (list, tuple)):
        return len(one) == len(other) and all(same_kinds(a, b) for a, b in zip(one, other))
    return one == other


def told_of(test, asked, *handed):
    """What is told; seen to that what is handed in stays, that it is told again, and that lists are the asker's own."""
    before = copy.deepcopy(handed)
    first = asked(*handed)
    test.assertTrue(same_kinds(handed, before), (asked, before))
    kept = copy.deepcopy(first)
    again = asked(*handed)
    lists = lists_within(first) + lists_within(again)
    places = {id(found) for found in lists}
    test.assertEqual(len(places), len(lists), (asked, before))
    test.assertFalse(places & {id(found) for found in lists_within(handed)}, (asked, before))
    for found in lists:
        found.clear()
        found.append("spoiled")
    test.assertTrue(same_kinds(handed, before), (asked, before))
    test.assertTrue(same_kinds(asked(*handed), kept), (asked, before))
    return kept
