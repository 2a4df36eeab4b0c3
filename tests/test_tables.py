import unittest

from leastrow.rows import row_on
from leastrow.tables import parts_at, table_behind, table_of
from tests.helper import SIZES, every_filling, looked_at, same_kinds, some_rows, some_stocks, some_tables, told_of

STOCK = [(("add", 0, 1), 2), (("not", 0), 1), (("copy", 1, 0), 9)]
ITSELF = ((0, 0), (0, 1), (1, 0), (1, 1))


class TableOf(unittest.TestCase):
    def test_written_out(self):
        for row, table in [
            ((), ITSELF),
            ((0,), ((0, 0), (1, 1), (1, 0), (0, 1))),
            ((1,), ((1, 0), (1, 1), (0, 0), (0, 1))),
            ((2,), ((0, 0), (0, 0), (1, 1), (1, 1))),
            ((2, 0), ((0, 0), (0, 0), (0, 1), (0, 1))),
            ((0, 2), ((0, 0), (1, 1), (1, 1), (0, 0))),
            ((1,) * 40, ITSELF),
        ]:
            self.assertTrue(same_kinds(table_of((1, 2), STOCK, row), table), row)
        self.assertEqual(table_of((2, 1), [(("up", 0), 1)], (0,)), ((0,), (2,), (0,), (2,)))

    def test_the_row_without_steps(self):
        for size in SIZES:
            self.assertEqual(table_of(size, some_stocks(size)[0], ()), tuple(every_filling(size)))

    def test_what_the_row_makes_of_each_filling(self):
        for size in SIZES:
            for stock in some_stocks(size)[1::3]:
                for row in some_rows(stock):
                    wanted = tuple([row_on(size, stock, row, filling) for filling in every_filling(size)])
                    self.assertTrue(same_kinds(table_of(size, stock, row), wanted), (size, stock, row))

    def test_what_is_handed_in_stays(self):
        for size in SIZES:
            for stock in some_stocks(size)[::5]:
                for row in some_rows(stock)[:7]:
                    told_of(self, table_of, size, stock, row)


class TableBehind(unittest.TestCase):
    def test_written_out(self):
        turned = ((1, 0), (1, 1), (0, 0), (0, 1))
        copied = ((0, 0), (0, 0), (1, 1), (1, 1))
        self.assertTrue(same_kinds(table_behind((1, 2), turned, copied), ((1, 1), (1, 1), (0, 0), (0, 0))))
        self.assertTrue(same_kinds(table_behind((1, 2), copied, turned), ((1, 0), (1, 0), (0, 1), (0, 1))))
        self.assertEqual(table_behind((1, 2), turned, turned), ITSELF)
        self.assertEqual(table_behind((2, 1), ((3,), (3,), (0,), (1,)), ((2,), (1,), (1,), (0,))), ((0,), (0,), (2,), (1,)))

    def test_the_table_of_both_rows_together(self):
        for size in SIZES:
            for stock in some_stocks(size)[3::4]:
                rows = some_rows(stock)[:7]
                tables = [table_of(size, stock, row) for row in rows]
                for one, first in zip(rows, tables):
                    for other, second in zip(rows, tables):
                        both = table_of(size, stock, one + other)
                        self.assertEqual(table_behind(size, first, second), both, (size, stock, one, other))

    def test_tables_that_no_row_need_make(self):
        for size in SIZES:
            every = every_filling(size)
            for one in some_tables(size):
                for other in some_tables(size):
                    second = dict(zip(every, other))
                    wanted = tuple([second[made] for made in one])
                    self.assertTrue(same_kinds(told_of(self, table_behind, size, one, other), wanted), (size, one, other))

    def test_each_filling_itself_ahead_or_behind(self):
        for size in SIZES:
            itself = tuple(every_filling(size))
            for table in some_tables(size):
                self.assertEqual(table_behind(size, itself, table), table)
                self.assertEqual(table_behind(size, table, itself), table)


class PartsAt(unittest.TestCase):
    def wanted(self, size, one, other, looked):
        boxes = range(size[1]) if looked is None else looked
        for number, filling in enumerate(every_filling(size)):
            for box in boxes:
                if one[number][box] != other[number][box]:
                    return filling
        return None

    def test_written_out(self):
        other = ((0, 0), (0, 1), (1, 1), (0, 1))
        for looked, wanted in [(None, (1, 0)), ([0, 1], (1, 0)), ([1], (1, 0)), ([0], (1, 1)), ([], None)]:
            self.assertEqual(parts_at((1, 2), ITSELF, other, looked), wanted)
            self.assertEqual(parts_at((1, 2), other, ITSELF, looked), wanted)
        self.assertEqual(parts_at((1, 2), ITSELF, other), (1, 0))
        self.assertIsNone(parts_at((1, 2), other, other))

    def test_every_list_of_boxes_of_every_size(self):
        for size in SIZES:
            for looked in looked_at(size):
                for one in some_tables(size):
                    for other in some_tables(size):
                        told = parts_at(size, one, other, looked)
                        self.assertTrue(same_kinds(told, self.wanted(size, one, other, looked)), (size, looked))

    def test_left_out_they_are_all_boxes(self):
        for size in SIZES:
            for one in some_tables(size):
                for other in some_tables(size):
                    wanted = self.wanted(size, one, other, None)
                    self.assertEqual(parts_at(size, one, other), wanted)
                    self.assertEqual(parts_at(size, one, other, looked=None), wanted)
                    self.assertEqual(parts_at(size, one, other, list(range(size[1]))), wanted)

    def test_no_box_looked_at(self):
        for size in SIZES:
            for one in some_tables(size):
                for other in some_tables(size):
                    self.assertIsNone(parts_at(size, one, other, []))

    def test_one_word_other_at_each_place(self):
        for size in SIZES:
            table = tuple(every_filling(size))
            for number, filling in enumerate(table):
                for box in range(size[1]):
                    word = (filling[box] + 1) % 2 ** size[0]
                    other = filling[:box] + (word,) + filling[box + 1:]
                    spoiled = table[:number] + (other,) + table[number + 1:]
                    self.assertEqual(parts_at(size, table, spoiled), filling)
                    self.assertEqual(parts_at(size, table, spoiled, [box]), filling)
                    rest = [another for another in range(size[1]) if another != box]
                    self.assertIsNone(parts_at(size, table, spoiled, rest))

    def test_what_is_handed_in_stays(self):
        for looked in looked_at((2, 3)):
            one, other = some_tables((2, 3))[:2]
            told_of(self, parts_at, (2, 3), one, other, looked)
            told_of(self, parts_at, (2, 3), one, one, looked)
