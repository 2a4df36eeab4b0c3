"""What several tests need: the sizes, the steps of a size, and things of every other kind."""

SIZES = [
    (1, 1), (1, 2), (1, 3), (1, 4), (1, 5), (1, 6),
    (2, 1), (2, 2), (2, 3),
    (3, 1), (3, 2),
    (4, 1), (5, 1), (6, 1),
]

PAIR_WORDS = ["and", "or", "xor", "add", "take", "copy"]
LONE_WORDS = ["not", "up", "down"]
STEP_WORDS = PAIR_WORDS + ["put"] + LONE_WORDS


def all_steps(size):
    bits, boxes = size
    steps = []
    for i in range(boxes):
        steps += [(word, i, j) for word in PAIR_WORDS for j in range(boxes)]
        steps += [("put", i, n) for n in range(2 ** bits)]
        steps += [(word, i) for word in LONE_WORDS]
    return steps


def no_whole_numbers():
    """Things of every kind that are no whole number, made anew each time."""
    return [
        None, True, False, 0.0, 1.0, 2.5, float("inf"), float("nan"), 1j,
        "", "0", "1", "and", [], [0], [1], [1, 2], (), (0,), (1,), (1, 2), {}, {0: 1}, {"1": [1]},
    ]


def no_tuples():
    """Things of every kind that are no tuple, made anew each time."""
    others = [thing for thing in no_whole_numbers() if not isinstance(thing, tuple)]
    return others + [0, 1, -1, 6, 10 ** 100, "not 0", [[]], [()], [None], {(1, 1): (1, 1)}]
