import random
import unittest

from leastrow.books import book_of
from leastrow.errors import TooGreat
from leastrow.papers import holds
from leastrow.tables import table_of
from tests.helper import CLOSED, FIVE_HUNDRED, SIX_HUNDRED, SIZES, all_steps, by_all_rows, every_filling, prices_of_tables
from tests.helper import some_stocks, told_of, whole_book, with_step

UP = [(("up", 0), 1), (("not", 0), 2), (("put", 0, 0), 2)]
ITSELF, UPPED = ((0,), (1,), (2,), (3,)), ((0,), (2,), (0,), (2,))
TURNED, NOUGHT = ((3,), (2,), (1,), (0,)), ((0,), (0,), (0,), (0,))


def by_the_words(size, stock, bound, book):
    """What point 20 asks, one thing after another."""
    if (0, ()) not in [entry[:2] for entry in book]:
        return False
    for price, row, table in book:
        if any(number not in range(len(stock)) for number in row):
            return False
        if table_of(size, stock, row) != table or sum(stock[number][1] for number in row) != price or price > bound:
            return False
    prices = {table: price for price, _, table in book}
    if len(prices) < len(book):
        return False
    for price, _, table in book:
        for step, more in stock:
            if price + more <= bound and prices.get(with_step(size, step, table), bound + 1) > price + more:
                return False
    return True


def books_of_every_size():
    for size in SIZES:
        for stock in some_stocks(size)[1:14:2]:
            for bound in [0, 1, 3, 6]:
                yield size, stock, bound, book_of(size, stock, bound)


def other_fillings(size, filling):
    """Fillings that there aren't, in the place of one: words too low and too high, too few, too many, none."""
    for box in range(size[1]):
        for word in [-1, -2 ** size[0], 2 ** size[0], filling[box] - 2 ** size[0], filling[box] + 2 ** size[0], 10 ** 30]:
            yield filling[:box] + (word,) + filling[box + 1:]
    yield filling[:-1]
    yield filling + (0,)
    yield ()


class Holds(unittest.TestCase):
    def yes(self, size, stock, bound, book):
        self.assertIs(holds(size, stock, bound, book), True, (size, stock, bound, book[:9]))

    def no(self, size, stock, bound, book):
        self.assertIs(holds(size, stock, bound, book), False, (size, stock, bound, book[:9]))

    def test_written_out(self):
        book = [(0, (), ITSELF), (1, (0,), UPPED), (2, (1,), TURNED), (2, (2,), NOUGHT)]
        self.yes((2, 1), UP, 0, book[:1])
        self.yes((2, 1), UP, 1, book[:2])
        self.yes((2, 1), UP, 2, book)
        self.yes((2, 1), UP, 2, book[::-1])
        self.no((2, 1), UP, 3, book)
        self.no((2, 1), UP, 1, book)
        self.no((2, 1), UP, 2, book[:3])
        self.no((2, 1), UP, 0, [])

    def test_a_row_need_not_be_the_least_one(self):
        book = [(2, (0, 0), NOUGHT), (2, (1,), TURNED), (1, (0,), UPPED), (0, (), ITSELF)]
        self.yes((2, 1), UP, 2, book)
        self.no((2, 1), UP, 2, book + [(2, (2,), NOUGHT)])
        stock = [(("not", 1), 1), (("not", 0), 1)]
        wanted = book_of((1, 2), stock, 2)
        self.assertEqual(wanted[-1][1], (0, 1))
        self.yes((1, 2), stock, 2, wanted[:-1] + [(2, (1, 0), wanted[-1][2])])

    def test_the_book_holds_in_whatever_order(self):
        chance = random.Random(20)
        for size, stock, bound, book in books_of_every_size():
            self.yes(size, stock, bound, book)
            self.yes(size, stock, bound, book[::-1])
            chance.shuffle(book)
            self.yes(size, stock, bound, book)

    def test_a_list_without_entries(self):
        for size in SIZES:
            for stock in some_stocks(size):
                for bound in [0, 1, 39, 40]:
                    self.no(size, stock, bound, [])

    def test_below_nought_it_is_the_one_that_holds(self):
        for size in SIZES:
            for stock in some_stocks(size):
                self.yes(size, stock, -1, [])
                self.no(size, stock, -1, [(0, (), tuple(every_filling(size)))])

    def test_a_list_of_one_entry(self):
        for size in SIZES:
            itself = [(0, (), tuple(every_filling(size)))]
            for stock in some_stocks(size):
                unchanged = all([with_step(size, step, itself[0][2]) == itself[0][2] for step, _ in stock])
                self.yes(size, stock, 0, itself)
                self.assertIs(holds(size, stock, 40, itself), unchanged)
            still = [(("and", 0, 0), 1), (("or", 0, 0), 5), (("copy", 0, 0), 9)]
            for bound in [0, 1, 9, 40]:
                self.yes(size, still, bound, itself)
                self.no(size, still, bound, [(1, (0,), itself[0][2])])
                self.no(size, still, bound, itself + [(1, (0,), itself[0][2])])
            self.no(size, [(("not", 0), 3)], 3, itself)
            self.yes(size, [(("not", 0), 3)], 2, itself)

    def test_the_row_without_steps_must_stand_there(self):
        stock = [(("not", 0), 1)]
        itself, turned = ((0,), (1,)), ((1,), (0,))
        self.yes((1, 1), stock, 2, [(0, (), itself), (1, (0,), turned)])
        self.no((1, 1), stock, 2, [(2, (0, 0), itself), (1, (0,), turned)])
        self.no((1, 1), stock, 2, [(0, (0, 0), itself), (1, (0,), turned)])
        self.no((1, 1), stock, 2, [(1, (), itself), (1, (0,), turned)])
        self.no((1, 1), stock, 2, [(2, (0, 0), itself), (0, (), itself), (1, (0,), turned)])
        self.no((1, 1), stock, 2, [(1, (0,), turned)])

    def test_an_entry_left_out(self):
        for size, stock, bound, book in books_of_every_size():
            for place in range(len(book)):
                self.no(size, stock, bound, book[:place] + book[place + 1:])

    def test_an_entry_twice(self):
        for size, stock, bound, book in books_of_every_size():
            for entry in book[:20]:
                self.no(size, stock, bound, book + [entry])
                self.no(size, stock, bound, [entry] + book)

    def test_a_table_twice_by_another_row(self):
        for size in SIZES:
            stock = [(("not", 0), 1), (("and", 0, 0), 1), (("put", 0, 0), 2)]
            book = book_of(size, stock, 4)
            self.yes(size, stock, 4, book)
            for price, row, table in book:
                for other in [row + (1,), (1,) + row]:
                    self.no(size, stock, 4, book + [(price + 1, other, table)])

    def test_another_price(self):
        for size, stock, bound, book in books_of_every_size():
            for place, (price, row, table) in list(enumerate(book))[:12]:
                for other in [price + 1, price - 1, -price - 1, bound + 1, 10 ** 30, price + 9]:
                    spoiled = (other, row, table)
                    self.no(size, stock, bound, book[:place] + [spoiled] + book[place + 1:])

    def test_a_dearer_row_of_the_same_table(self):
        for size in SIZES:
            stock = [(("not", 0), 1), (("and", 0, 0), 1), (("put", 0, 0), 2)]
            book = book_of(size, stock, 4)
            for place, (price, row, table) in enumerate(book):
                for other in [row + (1,), (1,) + row]:
                    self.no(size, stock, 4, book[:place] + [(price + 1, other, table)] + book[place + 1:])

    def test_another_row(self):
        for size, stock, bound, book in books_of_every_size():
            for place, (price, row, table) in list(enumerate(book))[:12]:
                for other in [row + (0,), row[:-1] if row else (0,), (len(stock) - 1,) + row]:
                    self.no(size, stock, bound, book[:place] + [(price, other, table)] + book[place + 1:])

    def test_another_table(self):
        for size, stock, bound, book in books_of_every_size():
            for place, (price, row, table) in list(enumerate(book))[:6]:
                turned = table[1:] + table[:1]
                for other in [turned, table[::-1], (table[0],) * len(table)]:
                    if other != table:
                        self.no(size, stock, bound, book[:place] + [(price, row, other)] + book[place + 1:])

    def test_a_step_that_there_is_not(self):
        for size, stock, bound, book in books_of_every_size():
            many = len(stock)
            for place, (price, row, table) in list(enumerate(book))[:9:2] + list(enumerate(book))[-1:]:
                # Counted from the stock's end, the same step.
                others = [tuple([number - many for number in row])] if row else []
                for number in [many, many + 1, -1, -many, -many - 1, 10 ** 30, -10 ** 30]:
                    others += [row + (number,), (number,) + row, row[:-1] + (number,)]
                for other in others:
                    self.no(size, stock, bound, book[:place] + [(price, other, table)] + book[place + 1:])
                self.no(size, stock, bound, book + [(price, (many,), table)])

    def test_a_filling_that_there_is_not(self):
        for size in SIZES:
            stock = [(("add", 0, size[1] - 1), 1), (("not", 0), 1)]
            book = book_of(size, stock, 2)
            self.yes(size, stock, 2, book)
            for place, (price, row, table) in enumerate(book):
                for number in [0, len(table) // 2, len(table) - 1]:
                    for filling in other_fillings(size, table[number]):
                        spoiled = (price, row, table[:number] + (filling,) + table[number + 1:])
                        self.no(size, stock, 2, book[:place] + [spoiled] + book[place + 1:])
                        self.no(size, stock, 2, book + [spoiled])

    def test_too_few_fillings_and_too_many(self):
        for size in SIZES:
            stock = [(("add", 0, size[1] - 1), 1), (("not", 0), 1)]
            book = book_of(size, stock, 2)
            for place, (price, row, table) in enumerate(book):
                for other in [(), table[:-1], table[1:], table + table[-1:], table + table]:
                    self.no(size, stock, 2, book[:place] + [(price, row, other)] + book[place + 1:])

    def test_another_bound(self):
        for size in SIZES:
            for stock in some_stocks(size)[:14]:
                books = [book_of(size, stock, bound) for bound in range(7)]
                for bound, book in enumerate(books):
                    for other in range(7):
                        self.assertIs(holds(size, stock, other, book), book == books[other], (size, stock, bound, other))

    def test_bound_forty_of_every_size(self):
        for size in SIZES:
            stock = [(("add", 0, size[1] - 1), 1), (("not", 0), 1), (("put", size[1] - 1, 1), 9)]
            book = book_of(size, stock, 40)
            self.yes(size, stock, 40, book)
            self.yes(size, stock, 40, book[::-1])
            self.no(size, stock, 40, book[:-1])
            self.no(size, stock, 40, book[1:])

    def test_five_hundred_entries(self):
        for stock, bound in [(FIVE_HUNDRED, 34), (CLOSED, 40), (CLOSED, 25)]:
            book = book_of((1, 3), stock, bound)
            self.assertEqual(len(book), 500)
            self.assertIs(told_of(self, holds, (1, 3), stock, bound, book), True)
            self.yes((1, 3), stock, bound, book[::-1])
            for place in [0, 1, 250, 499]:
                price, row, table = book[place]
                self.no((1, 3), stock, bound, book[:place] + book[place + 1:])
                self.no((1, 3), stock, bound, book + [book[place]])
                self.no((1, 3), stock, bound, book[:place] + [(price + 1, row, table)] + book[place + 1:])

    def test_more_than_five_hundred_tables_are_not_refused(self):
        for stock, bound, many in [(FIVE_HUNDRED, 35, 501), (SIX_HUNDRED, 27, 513), (SIX_HUNDRED, 30, 600)]:
            with self.assertRaises(TooGreat):
                book_of((1, 3), stock, bound)
            book = whole_book((1, 3), stock, bound)
            self.assertEqual(len(book), many)
            self.assertEqual({table: price for price, _, table in book}, prices_of_tables((1, 3), stock, bound))
            self.assertIs(told_of(self, holds, (1, 3), stock, bound, book), True)
            self.yes((1, 3), stock, bound, book[::-1])
            for place in [0, 1, 300, many - 1]:
                price, row, table = book[place]
                rest = book[:place] + book[place + 1:]
                self.no((1, 3), stock, bound, rest)
                self.no((1, 3), stock, bound, rest + [book[place - 1]])
                self.no((1, 3), stock, bound, rest + [(price - 1, row, table)])
                self.no((1, 3), stock, bound, rest + [(price, row + (-1,), table)])
                self.no((1, 3), stock, bound, rest + [(price, row, table[:-1] + ((0, 0, 2),))])
            self.no((1, 3), stock, bound, book[:500])
            self.no((1, 3), stock, bound, [])
            self.no((1, 3), stock, bound + 1, book)

    def test_lists_far_shorter_than_their_book_are_not_refused(self):
        rich = [(step, 1) for step in all_steps((2, 3))[::9][:8]]
        with self.assertRaises(TooGreat):
            book_of((2, 3), rich, 40)
        for book in [[], [(0, (), tuple(every_filling((2, 3))))], book_of((2, 3), rich, 2)]:
            self.no((2, 3), rich, 40, book)
        six_hundred = whole_book((2, 3), rich, 5)[:600]
        self.assertEqual(len(six_hundred), 600)
        self.no((2, 3), rich, 40, six_hundred)

    def test_spoiled_lists_by_the_words(self):
        chance = random.Random(2020)
        met = []
        for _ in range(1500):
            size = chance.choice(SIZES[:4] + SIZES[6:8])
            stock = [(step, chance.randint(1, 2)) for step in chance.sample(all_steps(size), chance.randint(1, 3))]
            bound = chance.randint(0, 4)
            book = by_all_rows(size, stock, bound)
            for _ in range(chance.randint(0, 2)):
                place = chance.randrange(len(book) + 1)
                row = tuple(chance.randrange(len(stock)) for _ in range(chance.randint(0, 3)))
                entry = (sum(stock[number][1] for number in row), row, table_of(size, stock, row))
                # A row's true entry may stand in the place of one, and the list may still hold.
                same = [at for at, other in enumerate(book) if other[2] == entry[2] and chance.randrange(4)]
                if same:
                    book[same[0]] = entry
                elif chance.randrange(2):
                    book.insert(place, entry)
                else:
                    book[place:place + 1] = [entry]
            met.append(by_the_words(size, stock, bound, book))
            self.assertIs(holds(size, stock, bound, book), met[-1], (size, stock, bound, book))
            if met[-1]:
                self.assertEqual({table: price for price, _, table in book}, prices_of_tables(size, stock, bound))
        self.assertTrue(300 < met.count(True) < 1200, met.count(True))

    def test_what_is_handed_in_stays(self):
        for size, stock, bound, book in books_of_every_size():
            self.assertIs(told_of(self, holds, size, stock, bound, book), True)
            self.assertIs(told_of(self, holds, size, stock, bound, book[1:]), False)
