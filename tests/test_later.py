import random
import unittest

from leastrow.later import boxes_later, pruned
from leastrow.rows import row_on
from leastrow.tables import parts_at, table_of
from tests.helper import SIZES, all_steps, every_filling, looked_at, same_kinds, some_rows, some_stocks, told_of

STOCK = [(("add", 0, 1), 2), (("copy", 1, 0), 1), (("put", 2, 1), 3), (("not", 2), 1), (("copy", 0, 2), 1)]

READS_BOTH = ["and", "or", "xor", "add", "take"]


def boxes_asked(step):
    """The boxes whose words the step asks for, by its word."""
    if step[0] in READS_BOTH:
        return {step[1], step[2]}
    return {"copy": {step[-1]}, "put": set()}.get(step[0], {step[1]})


def by_the_words(size, stock, row, looked):
    """The boxes that matter ahead of a row: by its first step, and those that matter behind that one."""
    if not row:
        return [list(range(size[1])) if looked is None else looked]
    rest = by_the_words(size, stock, row[1:], looked)
    step = stock[row[0]][0]
    behind = set(rest[0])
    if step[1] in behind:
        behind = behind - {step[1]} | boxes_asked(step)
    return [sorted(behind)] + rest


def asked():
    """Rows over stocks of every size, by every list of looked-at boxes, or by some of them."""
    for size in SIZES:
        for stock in some_stocks(size)[1:14:3]:
            for row in some_rows(stock):
                for looked in looked_at(size)[:8] + looked_at(size)[-2:]:
                    yield size, stock, row, looked


def mixed():
    chance = random.Random(25)
    for _ in range(400):
        size = chance.choice([(1, 2), (1, 3), (1, 4), (2, 2), (2, 3), (3, 2), (1, 6)])
        stock = [(step, 1) for step in chance.sample(all_steps(size), 8)]
        row = tuple(chance.randrange(8) for _ in range(chance.randint(0, 12)))
        yield size, stock, row, chance.choice(looked_at(size))


class BoxesLater(unittest.TestCase):
    def test_written_out(self):
        for row, looked, told in [
            ((), None, [[0, 1, 2]]), ((), [], [[]]), ((), [1], [[1]]), ((), [0, 2], [[0, 2]]),
            ((0,), None, [[0, 1, 2], [0, 1, 2]]), ((0,), [0], [[0, 1], [0]]), ((0,), [1], [[1], [1]]), ((0,), [], [[], []]),
            ((1,), [0, 1], [[0], [0, 1]]), ((1,), [1], [[0], [1]]), ((1,), [2], [[2], [2]]),
            ((2,), None, [[0, 1], [0, 1, 2]]), ((2,), [2], [[], [2]]), ((3,), [2], [[2], [2]]), ((3,), [0], [[0], [0]]),
            ((2, 3, 4), [0], [[], [2], [2], [0]]), ((2, 3, 4), [1], [[1], [1], [1], [1]]),
            ((0, 1, 4), None, [[0, 1, 2], [0, 2], [1, 2], [0, 1, 2]]), ((0, 1, 4), [1], [[0, 1], [0], [1], [1]]),
            ((4, 0), [0], [[1, 2], [0, 1], [0]]), ((3, 3, 1), [1, 2], [[0, 2], [0, 2], [0, 2], [1, 2]]),
        ]:
            self.assertTrue(same_kinds(boxes_later((1, 3), STOCK, row, looked), told), (row, looked))

    def test_each_step_by_what_it_reads(self):
        for size in SIZES:
            for step in all_steps(size):
                for looked in looked_at(size)[1:]:
                    ahead = set(looked)
                    if step[1] in looked:
                        ahead = ahead - {step[1]} | boxes_asked(step)
                    self.assertEqual(boxes_later(size, [(step, 1)], (0,), looked), [sorted(ahead), looked])

    def test_what_comes_of_it_does_not_count(self):
        for step in [("xor", 0, 0), ("take", 0, 0), ("and", 0, 0), ("or", 0, 0)]:
            self.assertEqual(boxes_later((1, 2), [(step, 1)], (0,), [0]), [[0], [0]])
        self.assertEqual(boxes_later((1, 2), [(("up", 0), 1)], (0,), [0]), [[0], [0]])
        self.assertEqual(boxes_later((1, 2), [(("add", 0, 1), 1), (("put", 1, 0), 1)], (1, 0), [0]), [[0], [0, 1], [0]])

    def test_by_the_words(self):
        for size, stock, row, looked in list(asked()) + list(mixed()):
            told = boxes_later(size, stock, row, looked)
            self.assertTrue(same_kinds(told, by_the_words(size, stock, row, looked)), (size, stock, row, looked))
            self.assertEqual(len(told), len(row) + 1)

    def test_left_out_they_are_all_boxes(self):
        for size in SIZES:
            for stock in some_stocks(size)[::4]:
                for row in some_rows(stock):
                    wanted = boxes_later(size, stock, row, list(range(size[1])))
                    self.assertEqual(boxes_later(size, stock, row), wanted)
                    self.assertEqual(boxes_later(size, stock, row, looked=None), wanted)

    def test_no_box_looked_at(self):
        for size in SIZES:
            for stock in some_stocks(size)[::4]:
                for row in some_rows(stock):
                    self.assertEqual(boxes_later(size, stock, row, []), [[]] * (len(row) + 1))

    def test_fillings_alike_there_come_to_the_same(self):
        for size, stock, row, looked in mixed():
            boxes = list(range(size[1])) if looked is None else looked
            later = boxes_later(size, stock, row, looked)
            for place in range(len(row) + 1):
                told = {}
                for filling in every_filling(size):
                    made = row_on(size, stock, row[place:], filling)
                    words = tuple([made[box] for box in boxes])
                    self.assertEqual(told.setdefault(tuple([filling[box] for box in later[place]]), words), words)

    def test_lists_are_the_askers_own(self):
        for size, stock, row, looked in list(asked())[::7]:
            told_of(self, boxes_later, size, stock, row, looked)


class Pruned(unittest.TestCase):
    def test_written_out(self):
        for row, looked, told in [
            ((), None, ((), [])), ((), [], ((), [])), ((0,), None, ((0,), [])), ((0,), [1], ((), [0])), ((0,), [], ((), [0])),
            ((2, 3, 4), [0], ((2, 3, 4), [])), ((2, 3, 4), [1], ((), [0, 1, 2])), ((2, 3, 4), [2], ((2, 3), [2])),
            ((3, 2), None, ((2,), [0])), ((3, 3, 2), [2], ((2,), [0, 1])), ((2, 3), [2], ((2, 3), [])),
            ((0, 4), [0], ((4,), [0])), ((0, 1, 4), [1], ((0, 1), [2])), ((0, 1, 4), [0], ((4,), [0, 1])),
            ((4, 2, 4, 1), [1], ((2, 4, 1), [0])), ((3, 0, 3, 1, 3), [0, 1], ((0, 1), [0, 2, 4])),
        ]:
            self.assertTrue(same_kinds(pruned((1, 3), STOCK, row, looked), told), (row, looked))

    def test_by_the_words(self):
        for size, stock, row, looked in list(asked()) + list(mixed()):
            later = by_the_words(size, stock, row, looked)
            out = [place for place, number in enumerate(row) if stock[number][0][1] not in later[place + 1]]
            kept = tuple([number for place, number in enumerate(row) if place not in out])
            self.assertTrue(same_kinds(pruned(size, stock, row, looked), (kept, out)), (size, stock, row, looked))

    def test_it_tells_the_same_and_pruned_again_it_stays(self):
        shorter = 0
        for size, stock, row, looked in list(asked())[::5] + list(mixed()):
            told = pruned(size, stock, row, looked)[0]
            tables = [table_of(size, stock, row), table_of(size, stock, told)]
            self.assertIsNone(parts_at(size, tables[0], tables[1], looked), (size, stock, row, looked))
            self.assertTrue(same_kinds(pruned(size, stock, told, looked), (told, [])))
            shorter += 0 < len(told) < len(row)
        self.assertGreater(shorter, 100)

    def test_left_out_they_are_all_boxes(self):
        for size in SIZES:
            for stock in some_stocks(size)[::4]:
                for row in some_rows(stock):
                    wanted = pruned(size, stock, row, list(range(size[1])))
                    self.assertEqual(pruned(size, stock, row), wanted)
                    self.assertEqual(pruned(size, stock, row, looked=None), wanted)

    def test_no_box_looked_at(self):
        for size in SIZES:
            for stock in some_stocks(size)[::4]:
                for row in some_rows(stock):
                    self.assertEqual(pruned(size, stock, row, []), ((), list(range(len(row)))))

    def test_lists_are_the_askers_own(self):
        for size, stock, row, looked in list(asked())[::7]:
            told_of(self, pruned, size, stock, row, looked)
