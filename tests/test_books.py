import random
import unittest

from leastrow.books import book_of
from leastrow.errors import TooGreat
from leastrow.rows import is_less, price_of
from leastrow.tables import table_of
from tests.helper import CLOSED, FIVE_HUNDRED, SIZES, all_steps, by_all_rows, every_filling, prices_of_tables, same_kinds
from tests.helper import some_stocks, told_of, with_step

class BookOf(unittest.TestCase):
    def refused(self, size, stock, bound):
        with self.assertRaises(TooGreat) as taken:
            book_of(size, stock, bound)
        self.assertIs(type(taken.exception), TooGreat)

    def is_sound(self, size, stock, bound, book):
        """Each row makes its table at its price, the rows rise, and each table stands there at its least price."""
        for price, row, table in book:
            self.assertEqual(price, price_of(stock, row))
            self.assertEqual(table, table_of(size, stock, row))
        for one, other in zip(book, book[1:]):
            self.assertTrue(is_less(stock, one[1], other[1]), (size, stock, bound))
        prices = prices_of_tables(size, stock, bound)
        self.assertEqual({table: price for price, _, table in book}, prices)
        self.assertEqual(len(book), len(prices))
        self.assertEqual({table: (price, len(row), row) for price, row, table in book}, self.least_of(size, stock, book))

    def least_of(self, size, stock, book):
        """For each table the least of the book's rows with a step behind them: so none of any kind is less."""
        least = {tuple(every_filling(size)): (0, 0, ())}
        moves = [dict(zip(every_filling(size), with_step(size, step, every_filling(size)))) for step, _ in stock]
        tables = {table for _, _, table in book}
        for price, row, table in book:
            for number, move in enumerate(moves):
                made = tuple([move[filling] for filling in table])
                rank = (price + stock[number][1], len(row) + 1, row + (number,))
                if made in tables:
                    least[made] = min(least.get(made, rank), rank)
        return least

    def test_written_out(self):
        stock = [(("up", 0), 1), (("not", 0), 2), (("put", 0, 0), 2)]
        itself, upped = ((0,), (1,), (2,), (3,)), ((0,), (2,), (0,), (2,))
        turned, nought = ((3,), (2,), (1,), (0,)), ((0,), (0,), (0,), (0,))
        self.assertTrue(same_kinds(book_of((2, 1), stock, 0), [(0, (), itself)]))
        self.assertTrue(same_kinds(book_of((2, 1), stock, 1), [(0, (), itself), (1, (0,), upped)]))
        self.assertTrue(same_kinds(book_of((2, 1), stock, 2), [
            (0, (), itself), (1, (0,), upped), (2, (1,), turned), (2, (2,), nought),
        ]))
        self.assertTrue(same_kinds(book_of((2, 1), stock, 3), [
            (0, (), itself), (1, (0,), upped), (2, (1,), turned), (2, (2,), nought),
            (3, (0, 1), ((3,), (1,), (3,), (1,))), (3, (1, 0), ((2,), (0,), (2,), (0,))),
        ]))

    def test_bound_nought(self):
        for size in SIZES:
            for stock in some_stocks(size):
                wanted = [(0, (), tuple(every_filling(size)))]
                self.assertTrue(same_kinds(told_of(self, book_of, size, stock, 0), wanted))

    def test_below_nought_there_is_no_row(self):
        for size in SIZES:
            for stock in some_stocks(size):
                self.assertTrue(same_kinds(book_of(size, stock, -1), []))

    def test_by_all_rows_of_every_size(self):
        for size in SIZES:
            for stock in some_stocks(size):
                for bound in [1, 2, 3, 4] + [7] * (len(stock) <= 3) + [11] * (len(stock) == 1):
                    wanted = by_all_rows(size, stock, bound)
                    self.assertTrue(same_kinds(book_of(size, stock, bound), wanted), (size, stock, bound))

    def test_by_all_rows_with_mixed_prices(self):
        chance = random.Random(19)
        for _ in range(150):
            size = chance.choice(SIZES[:9])
            stock = [(step, chance.randint(1, 3)) for step in chance.sample(all_steps(size), 3)]
            bound = chance.randint(5, 7)
            self.assertTrue(same_kinds(book_of(size, stock, bound), by_all_rows(size, stock, bound)), (size, stock, bound))

    def test_of_one_table_the_cheaper_row(self):
        for stock, row in [
            ([(("put", 0, 0), 3), (("xor", 0, 0), 2)], (1,)),
            ([(("put", 0, 0), 2), (("xor", 0, 0), 3)], (0,)),
            ([(("put", 0, 0), 3), (("up", 0), 1)], (1, 1)),
        ]:
            nought = [entry for entry in book_of((2, 1), stock, 9) if entry[2] == ((0,),) * 4]
            self.assertEqual(nought, [(2, row, ((0,),) * 4)])

    def test_of_one_price_the_fewer_steps(self):
        for stock, row in [
            ([(("up", 0), 1), (("put", 0, 0), 2)], (1,)),
            ([(("put", 0, 0), 2), (("up", 0), 1)], (0,)),
        ]:
            nought = [entry for entry in book_of((2, 1), stock, 9) if entry[2] == ((0,),) * 4]
            self.assertEqual(nought, [(2, row, ((0,),) * 4)])

    def test_of_as_many_steps_the_less_tuple(self):
        nought = ((0,),) * 4
        stock = [(("put", 0, 0), 2), (("xor", 0, 0), 2)]
        self.assertEqual(book_of((2, 1), stock, 9)[1:], [(2, (0,), nought)])
        self.assertEqual(book_of((2, 1), stock[::-1], 9)[1:], [(2, (0,), nought)])
        stock = [(("not", 1), 1), (("not", 0), 1)]
        self.assertEqual([entry[:2] for entry in book_of((1, 2), stock, 9)], [(0, ()), (1, (0,)), (1, (1,)), (2, (0, 1))])

    def test_order_by_price_then_steps_then_tuples(self):
        stock = [(("not", 0), 2), (("not", 1), 1), (("not", 2), 1)]
        rows = [entry[:2] for entry in book_of((1, 3), stock, 9)]
        self.assertEqual(rows, [
            (0, ()), (1, (1,)), (1, (2,)), (2, (0,)), (2, (1, 2)), (3, (0, 1)), (3, (0, 2)), (4, (0, 1, 2)),
        ])

    def test_steps_that_change_nothing(self):
        for size in SIZES:
            stock = [(("and", 0, 0), 1), (("or", 0, 0), 1), (("copy", 0, 0), 1)]
            self.assertEqual(book_of(size, stock, 40), [(0, (), tuple(every_filling(size)))])

    def test_a_price_at_the_bound_and_above_it(self):
        for price in range(1, 10):
            stock = [(("not", 0), price)]
            self.assertEqual([entry[:2] for entry in book_of((2, 2), stock, price)], [(0, ()), (price, (0,))])
            self.assertEqual([entry[:2] for entry in book_of((2, 2), stock, price - 1)], [(0, ())])

    def test_bound_forty_of_every_size(self):
        for size in SIZES:
            stock = [(("add", 0, size[1] - 1), 1), (("not", 0), 1), (("put", size[1] - 1, 1), 9)]
            book = told_of(self, book_of, size, stock, 40)
            self.is_sound(size, stock, 40, book)
        stock = [(("take", 0, 1), 1)]
        wanted = [(number, (0,) * number) for number in range(8)]
        self.assertEqual([entry[:2] for entry in book_of((3, 2), stock, 40)], wanted)
        self.assertEqual([entry[:2] for entry in book_of((6, 1), [(("put", 0, 63), 9)], 40)], [(0, ()), (9, (0,))])

    def test_rows_of_many_steps(self):
        stock = [(("copy", 0, 1), 1), (("take", 1, 0), 1)]
        book = book_of((3, 2), stock, 40)
        self.assertEqual(max(len(row) for _, row, _ in book), 22)
        self.is_sound((3, 2), stock, 40, book)
        dear = [(step, 9) for step, _ in stock]
        self.assertEqual([row for _, row, _ in book_of((3, 2), dear, 40)], [row for _, row, _ in book if len(row) <= 4])

    def test_a_book_of_just_five_hundred_tables(self):
        book = told_of(self, book_of, (1, 3), FIVE_HUNDRED, 34)
        self.assertEqual(len(book), 500)
        self.is_sound((1, 3), FIVE_HUNDRED, 34, book)
        for bound in range(25, 41):
            self.assertEqual(len(book_of((1, 3), CLOSED, bound)), 500)
        self.is_sound((1, 3), CLOSED, 40, book_of((1, 3), CLOSED, 40))

    def test_a_book_of_more_is_refused(self):
        self.assertEqual(len(prices_of_tables((1, 3), FIVE_HUNDRED, 35)), 501)
        for bound in range(35, 41):
            self.refused((1, 3), FIVE_HUNDRED, bound)
        rich = [
            (("add", 0, 1), 1), (("xor", 1, 2), 1), (("and", 2, 0), 1), (("not", 0), 1), (("up", 1), 1),
            (("copy", 0, 2), 1), (("put", 1, 3), 1), (("down", 2), 1),
        ]
        self.refused((2, 3), rich, 40)
        self.refused((2, 3), rich, 5)
        self.assertEqual(len(prices_of_tables((2, 3), rich, 3)), len(book_of((2, 3), rich, 3)))

    def test_more_or_not_is_as_counted(self):
        chance = random.Random(500)
        met = []
        for _ in range(30):
            size = chance.choice([(1, 3), (1, 4), (2, 2), (3, 2), (1, 6), (2, 3)])
            stock = [(step, chance.randint(1, 3)) for step in chance.sample(all_steps(size), 8)]
            bound = chance.randint(7, 10)
            met.append(len(prices_of_tables(size, stock, bound)) > 500)
            if met[-1]:
                self.refused(size, stock, bound)
            else:
                self.is_sound(size, stock, bound, book_of(size, stock, bound))
        self.assertTrue(3 < met.count(True) < 27, met.count(True))

    def test_with_a_higher_bound_it_only_goes_on(self):
        for size in SIZES:
            for stock in some_stocks(size)[2:9]:
                longest = book_of(size, stock, 8)
                for bound in range(8):
                    self.assertEqual(book_of(size, stock, bound), [entry for entry in longest if entry[0] <= bound])

    def test_what_is_handed_in_stays_and_lists_are_the_askers_own(self):
        for size in SIZES:
            for stock in some_stocks(size)[:6]:
                book = told_of(self, book_of, size, stock, 6)
                self.assertEqual([type(entry) for entry in book], [tuple] * len(book))
