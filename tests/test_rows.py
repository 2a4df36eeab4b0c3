import itertools
import unittest

from leastrow.rows import is_less, price_of, row_on
from leastrow.sizes import fillings
from leastrow.steps import step_on
from tests.helper import SIZES, some_rows, some_stocks, told_of

STOCK = [(("add", 0, 1), 2), (("not", 0), 1), (("copy", 1, 0), 9)]


class PriceOf(unittest.TestCase):
    def test_written_out(self):
        for row, price in [
            ((), 0), ((0,), 2), ((1,), 1), ((2,), 9), ((0, 1), 3), ((1, 0), 3), ((1, 1, 1), 3), ((0, 1, 2, 0), 14),
            ((1,) * 40, 40), ((0,) * 40, 80), ((2,) * 40, 360),
        ]:
            self.assertEqual(price_of(STOCK, row), price, row)

    def test_the_lowest_price_and_the_highest(self):
        for price in range(1, 10):
            for many in [0, 1, 2, 12, 40]:
                self.assertEqual(price_of([(("not", 0), price)], (0,) * many), price * many)

    def test_rows_over_stocks_of_every_size(self):
        for size in SIZES:
            for stock in some_stocks(size):
                for row in some_rows(stock):
                    told = told_of(self, price_of, stock, row)
                    self.assertIs(type(told), int)
                    self.assertEqual(told, sum(price * row.count(n) for n, (_, price) in enumerate(stock)))


class RowOn(unittest.TestCase):
    def test_written_out(self):
        for row, filling, made in [
            ((), (3, 2), (3, 2)), ((0,), (3, 2), (1, 2)), ((1,), (3, 2), (0, 2)), ((2,), (3, 2), (3, 3)),
            ((0, 1), (3, 2), (2, 2)), ((1, 0), (3, 2), (2, 2)), ((0, 2), (3, 2), (1, 1)), ((2, 0), (3, 2), (2, 3)),
            ((1, 1), (3, 2), (3, 2)), ((1, 2, 0), (3, 1), (0, 0)), ((0, 2, 1), (3, 1), (3, 0)),
            ((1,) * 40, (3, 2), (3, 2)), ((0,) * 40, (3, 1), (3, 1)), ((0,) * 39, (3, 1), (2, 1)),
        ]:
            self.assertEqual(row_on((2, 2), STOCK, row, filling), made, (row, filling))

    def test_the_first_step_is_done_first(self):
        stock = [(("put", 0, 1), 1), (("put", 0, 2), 1), (("up", 0), 1)]
        self.assertEqual(row_on((2, 1), stock, (0, 1), (0,)), (2,))
        self.assertEqual(row_on((2, 1), stock, (1, 0), (0,)), (1,))
        self.assertEqual(row_on((2, 1), stock, (0, 2), (0,)), (2,))
        self.assertEqual(row_on((2, 1), stock, (2, 0), (0,)), (1,))

    def test_the_row_without_steps(self):
        for size in SIZES:
            for filling in fillings(size):
                self.assertEqual(row_on(size, some_stocks(size)[0], (), filling), filling)

    def test_step_by_step_for_every_size(self):
        for size in SIZES:
            for stock in some_stocks(size):
                for row in some_rows(stock):
                    for filling in fillings(size)[::5]:
                        wanted = filling
                        for number in row:
                            wanted = step_on(size, stock[number][0], wanted)
                        self.assertEqual(row_on(size, stock, row, filling), wanted)

    def test_kinds_and_what_is_handed_in_stays(self):
        for size in SIZES:
            for stock in some_stocks(size):
                for row in some_rows(stock):
                    told = told_of(self, row_on, size, stock, row, fillings(size)[-1])
                    self.assertIs(type(told), tuple)
                    self.assertEqual([type(word) for word in told], [int] * size[1])


class IsLess(unittest.TestCase):
    def less(self, stock, one, other):
        self.assertIs(is_less(stock, one, other), True, (stock, one, other))
        self.assertIs(is_less(stock, other, one), False, (stock, one, other))

    def test_a_lower_price_goes_first(self):
        self.less(STOCK, (1,) * 8, (2,))
        self.less(STOCK, (1,), (0,))
        self.less(STOCK, (1, 1, 1), (0, 0))
        self.less(STOCK, (), (1,))
        self.less(STOCK, (0,) * 4, (2,))
        self.less(STOCK, (1,) * 39, (1,) * 40)
        self.less(STOCK, (0,) * 39, (0,) * 40)

    def test_of_one_price_the_fewer_steps(self):
        self.less(STOCK, (0,), (1, 1))
        self.less(STOCK, (2,), (0, 0, 0, 0, 1))
        self.less(STOCK, (2, 1), (0, 0, 0, 0, 0))
        self.less(STOCK, (0,) * 20, (1,) * 40)

    def test_of_as_many_steps_the_less_tuple(self):
        self.less(STOCK, (0, 1), (1, 0))
        self.less(STOCK, (0, 1, 1), (1, 0, 1))
        self.less(STOCK, (1, 0, 1), (1, 1, 0))
        self.less([(("not", 0), 1), (("up", 0), 1)], (0,), (1,))
        self.less([(("not", 0), 1), (("up", 0), 1)], (0,) * 39 + (1,), (0,) * 38 + (1, 0))

    def test_no_row_is_less_than_itself(self):
        for size in SIZES:
            for stock in some_stocks(size):
                for row in some_rows(stock):
                    self.assertIs(is_less(stock, row, row), False)

    def test_every_pair_of_short_rows(self):
        for prices in [(1, 1, 1), (1, 2, 3), (3, 2, 1), (2, 1, 9)]:
            stock = list(zip([("not", 0), ("up", 0), ("down", 0)], prices))
            rows = [row for many in range(5) for row in itertools.product(range(3), repeat=many)]
            # Sorted by the last thing asked first, and the first one last.
            ordered = sorted(rows)
            ordered = sorted(ordered, key=len)
            ordered = sorted(ordered, key=lambda row: sum(prices[number] for number in row))
            for a, one in enumerate(ordered):
                for b, other in enumerate(ordered):
                    self.assertIs(is_less(stock, one, other), a < b, (prices, one, other))

    def test_what_is_handed_in_stays(self):
        for stock in some_stocks((2, 2)):
            for one in some_rows(stock):
                for other in some_rows(stock):
                    self.assertIs(type(told_of(self, is_less, stock, one, other)), bool)
