import random
import unittest

from leastrow.books import book_of
from leastrow.errors import TooGreat
from leastrow.examples import wish_of
from leastrow.least import least_row, shows_none
from leastrow.papers import holds
from leastrow.rows import is_less, price_of
from leastrow.tables import table_of
from leastrow.wishes import does_wish, is_loose, wish_like
from tests.helper import CLOSED, FIVE_HUNDRED, SIX_HUNDRED, SIZES, all_steps, by_all_rows, every_filling, looked_at
from tests.helper import same_kinds, some_rows, some_stocks, some_wishes, told_of, whole_book

UP = [(("up", 0), 1), (("not", 0), 2), (("put", 0, 0), 2)]


def wishes_for(size, stock):
    """Wishes that rows of the stock do, in some boxes, beside others that perhaps none does."""
    rows = some_rows(stock)[:7]
    like = [wish_like(size, table_of(size, stock, row), looked) for row in rows for looked in [None, [], [0]]]
    return like + some_wishes(size)


def looser(chance, size, wish):
    """A wish with more fillings, or None, here and there."""
    every = every_filling(size)
    told = []
    for choice in wish:
        if choice is None or chance.randrange(3) > 0:
            told.append(None)
        else:
            told.append(sorted(set(choice + chance.sample(every, chance.randint(0, len(every) - 1)))))
    return told


def price_told(stock, told):
    """What the row costs; more than any bound where there is none."""
    return price_of(stock, told[1]) if told[0] == "row" else 1000


class LeastRow(unittest.TestCase):
    def as_by_all(self, size, stock, bound, wish, book):
        """Held against a book that was made by going through all rows."""
        doing = [entry for entry in book if does_wish(size, wish, entry[2])]
        wanted = ("none", book)
        if doing:
            wanted = ("row", doing[0][1], [entry for entry in book if entry[0] <= doing[0][0] - 1])
        self.assertTrue(same_kinds(least_row(size, stock, bound, wish), wanted), (size, stock, bound, wish))

    def refused(self, size, stock, bound, wish):
        with self.assertRaises(TooGreat) as taken:
            least_row(size, stock, bound, wish)
        self.assertIs(type(taken.exception), TooGreat)

    def test_written_out(self):
        itself, upped = ((0,), (1,), (2,), (3,)), ((0,), (2,), (0,), (2,))
        turned, nought = ((3,), (2,), (1,), (0,)), ((0,), (0,), (0,), (0,))
        book = [(0, (), itself), (1, (0,), upped), (2, (1,), turned), (2, (2,), nought)]
        for bound, wish, told in [
            (9, [None, None, None, None], ("row", (), [])),
            (0, [None, [(1,)], None, None], ("row", (), [])),
            (0, [None, [(0,)], None, None], ("none", book[:1])),
            (1, [None, [(0,)], None, None], ("none", book[:2])),
            (2, [None, [(0,)], None, None], ("row", (2,), book[:2])),
            (9, [None, [(0,)], None, None], ("row", (2,), book[:2])),
            (9, [None, [(0,), (2,)], None, None], ("row", (0,), book[:1])),
            (2, [None, [(2,)], None, [(0,)]], ("row", (1,), book[:2])),
            (2, [[(1,)], None, None, None], ("none", book)),
        ]:
            self.assertTrue(same_kinds(least_row((2, 1), UP, bound, wish), told), (bound, wish))

    def test_by_all_rows_of_every_size(self):
        for size in SIZES:
            for stock in some_stocks(size)[2:11:2]:
                for bound in [0, 2, 4]:
                    book = by_all_rows(size, stock, bound)
                    for wish in wishes_for(size, stock):
                        self.as_by_all(size, stock, bound, wish, book)

    def test_by_all_rows_with_mixed_prices(self):
        chance = random.Random(21)
        met = {"row": 0, "none": 0}
        for _ in range(120):
            size = chance.choice(SIZES[:4] + SIZES[6:10])
            every = every_filling(size)
            stock = [(step, chance.randint(1, 3)) for step in chance.sample(all_steps(size), 3)]
            bound = chance.randint(3, 7)
            book = by_all_rows(size, stock, bound)
            for _ in range(10):
                wish = [None] * len(every)
                for number in chance.sample(range(len(every)), min(2, len(every))):
                    wish[number] = sorted(chance.sample(every, chance.randint(1, len(every) // 2)))
                self.as_by_all(size, stock, bound, wish, book)
                met[least_row(size, stock, bound, wish)[0]] += 1
        self.assertTrue(min(met.values()) > 100, met)

    def test_a_row_that_costs_nought(self):
        for size in SIZES:
            itself = wish_like(size, tuple(every_filling(size)))
            for stock in some_stocks(size)[:10]:
                for wish in [itself, [None] * len(itself), itself[:1] + [None] * (len(itself) - 1)]:
                    for bound in [0, 1, 4]:
                        self.assertTrue(same_kinds(least_row(size, stock, bound, wish), ("row", (), [])))

    def test_bound_nought(self):
        for size in SIZES:
            itself = tuple(every_filling(size))
            for stock in some_stocks(size)[1::4]:
                for wish in some_wishes(size):
                    wanted = ("row", (), []) if does_wish(size, wish, itself) else ("none", [(0, (), itself)])
                    self.assertTrue(same_kinds(told_of(self, least_row, size, stock, 0, wish), wanted))

    def test_bound_forty_of_every_size(self):
        for size in SIZES:
            last = 2 ** size[0] - 1
            stock = [(("put", 0, last), 9), (("not", 0), 9), (("copy", size[1] - 1, 0), 9)]
            wish = wish_of(size, [((0,) * size[1], (None,) * (size[1] - 1) + (last,))])
            told = told_of(self, least_row, size, stock, 40, wish)
            row = (0,) if size[1] == 1 else (0, 2)
            self.assertTrue(same_kinds(told, ("row", row, book_of(size, stock, 9 * len(row) - 1))))
            never = wish_of(size, [((0,) * size[1], (last,) + (None,) * (size[1] - 1))])
            stock = [(("and", 0, 0), 1), (("up", 0), 9)]
            self.assertTrue(same_kinds(least_row(size, stock, 40, never), ("none", book_of(size, stock, 40))))

    def test_the_price_at_the_bound_and_above_it(self):
        for price in range(1, 10):
            stock = [(("not", 0), price)]
            itself, turned = ((0,), (1,)), ((1,), (0,))
            wish = wish_like((1, 1), turned)
            self.assertEqual(least_row((1, 1), stock, price, wish), ("row", (0,), [(0, (), itself)]))
            self.assertEqual(least_row((1, 1), stock, price - 1, wish), ("none", [(0, (), itself)]))
        self.assertEqual(least_row((1, 1), [(("not", 0), 9)], 40, [[(1,)], [(1,)]])[0], "none")

    def test_of_one_price_the_fewer_steps_then_the_less_tuple(self):
        nought = [[(0,)]] * 4
        for stock, row in [
            ([(("up", 0), 1), (("put", 0, 0), 2)], (1,)),
            ([(("put", 0, 0), 2), (("up", 0), 1)], (0,)),
            ([(("put", 0, 0), 2), (("xor", 0, 0), 2)], (0,)),
            ([(("put", 0, 0), 3), (("xor", 0, 0), 2)], (1,)),
            ([(("put", 0, 0), 3), (("up", 0), 1)], (1, 1)),
        ]:
            self.assertEqual(least_row((2, 1), stock, 9, nought)[1], row)
        # Two tables do the wish, at one price: the row of the one has fewer steps, or is the less tuple.
        first = wish_of((2, 2), [((0, 0), (3, None))])
        for stock, row in [
            ([(("put", 1, 3), 1), (("add", 0, 1), 1), (("not", 0), 2)], (2,)),
            ([(("put", 0, 3), 2), (("not", 0), 2)], (0,)),
            ([(("not", 0), 2), (("put", 0, 3), 2)], (0,)),
            ([(("not", 1), 1), (("put", 1, 3), 1), (("copy", 0, 1), 1)], (0, 2)),
        ]:
            self.assertEqual(least_row((2, 2), stock, 9, first)[1], row)

    def test_the_book_is_that_up_to_one_less_and_shows_it(self):
        for size in SIZES:
            for stock in some_stocks(size)[:12:2]:
                for wish in wishes_for(size, stock)[::2]:
                    told = least_row(size, stock, 5, wish)
                    if told[0] == "none":
                        self.assertEqual(told, ("none", book_of(size, stock, 5)))
                        self.assertIs(shows_none(size, stock, 5, wish, told[1]), True)
                        continue
                    price = price_of(stock, told[1])
                    self.assertTrue(does_wish(size, wish, table_of(size, stock, told[1])))
                    self.assertLessEqual(price, 5)
                    self.assertEqual(told[2], book_of(size, stock, price - 1))
                    self.assertIs(shows_none(size, stock, price - 1, wish, told[2]), True)
                    self.assertIs(holds(size, stock, price - 1, told[2]), True)
                    self.assertIs(shows_none(size, stock, price, wish, book_of(size, stock, price)), False)

    def test_a_book_of_just_five_hundred_tables(self):
        for stock, bound in [(FIVE_HUNDRED, 34), (CLOSED, 40)]:
            book = book_of((1, 3), stock, bound)
            for price, row, table in book[::83] + book[-1:]:
                told = told_of(self, least_row, (1, 3), stock, bound, wish_like((1, 3), table))
                self.assertTrue(same_kinds(told, ("row", row, [entry for entry in book if entry[0] < price])))
            never = [[(1, 1, 1)]] + [[(0, 0, 0)]] * 7
            self.assertTrue(same_kinds(least_row((1, 3), stock, bound, never), ("none", book)))

    def test_a_greater_book_is_refused_whatever_the_wish(self):
        for size, stock, bound in [
            ((1, 3), FIVE_HUNDRED, 35), ((1, 3), FIVE_HUNDRED, 40), ((1, 3), SIX_HUNDRED, 27), ((1, 3), SIX_HUNDRED, 40),
            ((2, 3), [(step, 1) for step in all_steps((2, 3))[::9][:8]], 40),
        ]:
            every = every_filling(size)
            for wish in some_wishes(size) + [wish_like(size, tuple(every)), wish_like(size, tuple(every), [])]:
                self.refused(size, stock, bound, wish)
        self.assertEqual(least_row((1, 3), SIX_HUNDRED, 26, [None] * 8), ("row", (), []))

    def test_with_fewer_steps_nothing_is_cheaper(self):
        met = 0
        for size in SIZES:
            for stock in some_stocks(size)[4:10]:
                for wish in wishes_for(size, stock)[::3]:
                    whole = least_row(size, stock, 5, wish)
                    for place in range(len(stock)):
                        fewer = stock[:place] + stock[place + 1:]
                        told = least_row(size, fewer, 5, wish)
                        self.assertGreaterEqual(price_told(fewer, told), price_told(stock, whole))
                        met += price_told(fewer, told) > price_told(stock, whole)
        self.assertGreater(met, 100)

    def test_with_a_looser_wish_nothing_is_dearer(self):
        chance = random.Random(18)
        met = 0
        for size in SIZES:
            for stock in some_stocks(size)[4:12:2]:
                for wish in wishes_for(size, stock)[::2]:
                    loose = looser(chance, size, wish)
                    self.assertIs(is_loose(size, loose, wish), True)
                    one, other = least_row(size, stock, 5, loose), least_row(size, stock, 5, wish)
                    self.assertLessEqual(price_told(stock, one), price_told(stock, other))
                    if one[0] == other[0] == "row":
                        self.assertFalse(is_less(stock, other[1], one[1]))
                    met += price_told(stock, one) < price_told(stock, other)
        self.assertGreater(met, 100)

    def test_with_a_higher_bound_the_row_stays(self):
        for size in SIZES:
            for stock in some_stocks(size)[2:10]:
                for wish in wishes_for(size, stock)[::4]:
                    told = [least_row(size, stock, bound, wish) for bound in range(6)]
                    for bound in range(5):
                        if told[bound][0] == "row":
                            self.assertEqual(told[bound], told[bound + 1])

    def test_what_is_handed_in_stays_and_lists_are_the_askers_own(self):
        for size in SIZES:
            for stock in some_stocks(size)[:6]:
                for wish in wishes_for(size, stock)[::5]:
                    told_of(self, least_row, size, stock, 3, wish)


class ShowsNone(unittest.TestCase):
    def test_just_where_it_holds_and_no_table_does_the_wish(self):
        for size in SIZES:
            for stock in some_stocks(size)[:10:2]:
                book = book_of(size, stock, 3)
                for wish in wishes_for(size, stock):
                    wanted = not any([does_wish(size, wish, table) for _, _, table in book])
                    self.assertIs(shows_none(size, stock, 3, wish, book), wanted)
                    self.assertIs(shows_none(size, stock, 3, wish, book[::-1]), wanted)
                    self.assertIs(least_row(size, stock, 3, wish)[0] == "none", wanted)

    def test_a_list_that_does_not_hold_shows_nothing(self):
        wish = [[(1,)], [(1,)], [(2,)], [(0,)]]
        book = book_of((2, 1), UP, 3)
        self.assertIs(shows_none((2, 1), UP, 3, wish, book), True)
        for place, (price, row, table) in enumerate(book):
            rest = book[:place] + book[place + 1:]
            for spoiled in [
                rest, book + [book[place]], rest + [(price + 1, row, table)], rest + [(price - 1, row, table)],
                rest + [(price, row + (0,), table)], rest + [(price, row + (3,), table)], rest + [(price, (-1,), table)],
                rest + [(price, row, ((1,),) * 4)], rest + [(price, row, table[:-1])], rest + [(price, row, ())],
                rest + [(price, row, table[:-1] + ((4,),))], rest + [(price, row, table[:-1] + ((-1,),))],
            ]:
                self.assertIs(shows_none((2, 1), UP, 3, wish, spoiled), False, spoiled)
        for bound in [0, 1, 2, 4, 40]:
            self.assertIs(shows_none((2, 1), UP, bound, wish, book), False)
        for bound in range(41):
            self.assertIs(shows_none((2, 1), UP, bound, wish, []), False)

    def test_wishes_of_none_alone_are_done_by_every_book(self):
        for size in SIZES:
            for stock in some_stocks(size)[:10]:
                for bound in [0, 2]:
                    free = [None] * len(every_filling(size))
                    self.assertIs(shows_none(size, stock, bound, free, book_of(size, stock, bound)), False)

    def test_below_nought_nothing_does_a_wish(self):
        for size in SIZES:
            for wish in some_wishes(size):
                for stock in some_stocks(size)[:3]:
                    self.assertIs(shows_none(size, stock, -1, wish, []), True)

    def test_bound_nought(self):
        for size in SIZES:
            itself = tuple(every_filling(size))
            for stock in some_stocks(size)[:4]:
                for wish in some_wishes(size):
                    wanted = not does_wish(size, wish, itself)
                    self.assertIs(told_of(self, shows_none, size, stock, 0, wish, [(0, (), itself)]), wanted)

    def test_lists_of_five_hundred_and_of_six_hundred(self):
        never = [[(1, 1, 1)]] + [[(0, 0, 0)]] * 7
        for stock, bound, many in [(CLOSED, 40, 500), (FIVE_HUNDRED, 34, 500), (FIVE_HUNDRED, 35, 501), (SIX_HUNDRED, 30, 600)]:
            book = whole_book((1, 3), stock, bound)
            self.assertEqual(len(book), many)
            self.assertIs(told_of(self, shows_none, (1, 3), stock, bound, never, book), True)
            self.assertIs(shows_none((1, 3), stock, bound, never, book[:-1]), False)
            for place in [0, 77, many - 1]:
                self.assertIs(shows_none((1, 3), stock, bound, wish_like((1, 3), book[place][2]), book), False)

    def test_what_is_handed_in_stays(self):
        for size in SIZES:
            for stock in some_stocks(size)[:6]:
                for wish in wishes_for(size, stock)[::5]:
                    told_of(self, shows_none, size, stock, 3, wish, book_of(size, stock, 3))
