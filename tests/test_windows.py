import random
import unittest

from leastrow.books import book_of
from leastrow.errors import NoWindow, TooGreat
from leastrow.rows import price_of, row_on
from leastrow.tables import parts_at, table_of
from leastrow.windows import piece_for, wish_at
from leastrow.wishes import does_wish
from tests.helper import CLOSED, FIVE_HUNDRED, SIZES, all_steps, by_all_rows, every_filling, looked_at, piece_of, same_kinds
from tests.helper import some_rows, some_stocks, told_of, whole_book

STOCK = [(("not", 0), 1), (("copy", 1, 0), 2), (("put", 0, 0), 2), (("xor", 0, 1), 3)]
ALL = [(0, 0), (0, 1), (1, 0), (1, 1)]

FAR = 10 ** 30


def by_the_words(size, stock, row, place, many, looked):
    """The wish at a window, as point 27 tells it, filling by filling."""
    every = every_filling(size)
    boxes = list(range(size[1])) if looked is None else looked
    brought = {row_on(size, stock, row[:place], filling) for filling in every}

    def seen(filling):
        made = row_on(size, stock, row[place + many:], filling)
        return [made[box] for box in boxes]

    wish = []
    for filling in every:
        if filling in brought:
            told = seen(row_on(size, stock, row[place:place + many], filling))
            wish.append([other for other in every if seen(other) == told])
        else:
            wish.append(None)
    return wish


def no_windows(row):
    """Two whole numbers that are no window of the row."""
    many = len(row)
    pairs = [(0, 0), (0, many + 1), (many, 1), (many, 0), (-1, 1), (-1, 2), (-many, many), (-many - 1, 1), (0, -1), (many, -1)]
    pairs += [(-1, many + 1), (1, many), (many + 1, -1), (many - 1, 2), (-1, 0), (-1, -1)]
    return pairs + [(FAR, 1), (0, FAR), (-FAR, FAR), (FAR, -FAR), (-FAR, 1), (0, -FAR), (FAR, FAR), (-FAR, FAR + 1)]


def windows(row):
    return [(place, many) for many in range(1, len(row) + 1) for place in range(len(row) - many + 1)]


def asked():
    """Windows of rows over stocks of every size, by some lists of looked-at boxes."""
    chance = random.Random(27)
    for size in SIZES:
        for stock in some_stocks(size)[2:14:3]:
            for row in some_rows(stock)[1:7] + [tuple(chance.randrange(len(stock)) for _ in range(5))]:
                place, many = chance.choice(windows(row))
                for looked in [None, [], [0], [size[1] - 1], list(range(size[1])), chance.choice(looked_at(size))]:
                    yield size, stock, row, place, many, looked


def mixed(times, steps):
    chance = random.Random(times)
    for _ in range(times):
        size = chance.choice([(1, 1), (1, 2), (1, 3), (2, 1), (2, 2), (3, 1), (1, 4), (3, 2)])
        stock = [(step, chance.randint(1, 3)) for step in chance.sample(all_steps(size), chance.randint(3, 5))]
        row = tuple(chance.randrange(len(stock)) for _ in range(chance.randint(1, steps)))
        place, many = chance.choice(windows(row))
        yield size, stock, row, place, many, chance.choice(looked_at(size))


class WishAt(unittest.TestCase):
    def test_written_out(self):
        for row, place, many, looked, wish in [
            ((0,), 0, 1, None, [[(1, 0)], [(1, 1)], [(0, 0)], [(0, 1)]]),
            ((0,), 0, 1, [0], [[(1, 0), (1, 1)], [(1, 0), (1, 1)], [(0, 0), (0, 1)], [(0, 0), (0, 1)]]),
            ((0,), 0, 1, [1], [[(0, 0), (1, 0)], [(0, 1), (1, 1)], [(0, 0), (1, 0)], [(0, 1), (1, 1)]]),
            ((0,), 0, 1, [], [ALL, ALL, ALL, ALL]),
            ((2, 0), 1, 1, None, [[(1, 0)], [(1, 1)], None, None]),
            ((2, 0), 1, 1, [], [ALL, ALL, None, None]),
            ((2, 0), 1, 1, [0], [[(1, 0), (1, 1)], [(1, 0), (1, 1)], None, None]),
            ((2, 0), 0, 1, None, [[(0, 0)], [(0, 1)], [(0, 0)], [(0, 1)]]),
            ((0, 2), 0, 1, None, [[(0, 0), (1, 0)], [(0, 1), (1, 1)], [(0, 0), (1, 0)], [(0, 1), (1, 1)]]),
            ((0, 2), 0, 1, [0], [ALL, ALL, ALL, ALL]),
            ((0, 2), 0, 2, None, [[(0, 0)], [(0, 1)], [(0, 0)], [(0, 1)]]),
            ((1, 3), 1, 1, None, [[(0, 0)], None, None, [(0, 1)]]),
            ((2, 1, 0), 1, 1, None, [[(0, 0)], [(0, 0)], None, None]),
            ((2, 1, 1), 1, 1, None, [[(0, 0), (0, 1)], [(0, 0), (0, 1)], None, None]),
        ]:
            told = wish_at((1, 2), STOCK, row, place, many, looked)
            self.assertTrue(same_kinds(told, wish), (row, place, many, looked))

    def test_by_the_words(self):
        for size, stock, row, place, many, looked in list(asked()) + list(mixed(400, 7)):
            wanted = by_the_words(size, stock, row, place, many, looked)
            told = wish_at(size, stock, row, place, many, looked)
            self.assertTrue(same_kinds(told, wanted), (size, stock, row, place, many, looked))

    def test_every_window_of_rows_of_some_steps(self):
        for size in SIZES:
            stock = [(("not", 0), 1), (("copy", size[1] - 1, 0), 1), (("put", 0, 1), 1), (("up", size[1] - 1), 1)]
            row = (0, 2, 1, 3, 0)
            for place, many in windows(row):
                for looked in [None, [0], []]:
                    wanted = by_the_words(size, stock, row, place, many, looked)
                    self.assertTrue(same_kinds(wish_at(size, stock, row, place, many, looked), wanted))

    def test_all_fillings_are_listed_where_no_box_is_looked_at(self):
        for size in SIZES:
            every = every_filling(size)
            for stock in some_stocks(size)[::5]:
                self.assertTrue(same_kinds(wish_at(size, stock, (0, 0), 0, 2, []), [every for _ in every]))

    def test_rows_of_forty_steps(self):
        for size in SIZES:
            stock = some_stocks(size)[9]
            for row in some_rows(stock)[-3:]:
                for place, many in [(0, 1), (39, 1), (0, 40), (7, 20)]:
                    wanted = by_the_words(size, stock, row, place, many, [0])
                    self.assertTrue(same_kinds(wish_at(size, stock, row, place, many, [0]), wanted))

    def test_left_out_they_are_all_boxes(self):
        for size, stock, row, place, many, _ in list(asked())[::6]:
            wanted = wish_at(size, stock, row, place, many, list(range(size[1])))
            self.assertEqual(wish_at(size, stock, row, place, many), wanted)
            self.assertEqual(wish_at(size, stock, row, place, many, looked=None), wanted)

    def test_the_whole_row_tells_the_same_just_where_the_wish_is_done(self):
        chance = random.Random(4)
        met = []
        for size, stock, row, place, many, looked in mixed(300, 7):
            wish = wish_at(size, stock, row, place, many, looked)
            table = table_of(size, stock, row)
            others = [tuple(chance.randrange(len(stock)) for _ in range(chance.randint(0, 3))) for _ in range(12)]
            for other in others + [row[place:place + many]]:
                changed = row[:place] + other + row[place + many:]
                same = parts_at(size, table, table_of(size, stock, changed), looked) is None
                met.append(does_wish(size, wish, table_of(size, stock, other)))
                self.assertIs(met[-1], same, (size, stock, row, place, many, looked, other))
        self.assertTrue(500 < met.count(True) < len(met) - 500, met.count(True))

    def test_what_is_no_window_is_refused(self):
        for size in SIZES:
            for stock in some_stocks(size)[::6]:
                for row in some_rows(stock):
                    for place, many in no_windows(row):
                        for looked in [None, [], [0]]:
                            with self.assertRaises(NoWindow) as taken:
                                wish_at(size, stock, row, place, many, looked)
                            self.assertIs(type(taken.exception), NoWindow)

    def test_lists_are_the_askers_own(self):
        for size, stock, row, place, many, looked in list(asked())[::5]:
            told_of(self, wish_at, size, stock, row, place, many, looked)


class PieceFor(unittest.TestCase):
    def too_great(self, *handed):
        with self.assertRaises(TooGreat) as taken:
            piece_for(*handed)
        self.assertIs(type(taken.exception), TooGreat)

    def test_written_out(self):
        for row, place, many, looked, piece in [
            ((0,), 0, 1, None, None), ((0,), 0, 1, [0], None), ((0,), 0, 1, [1], ()), ((0,), 0, 1, [], ()),
            ((0, 0), 0, 2, None, ()), ((0, 0), 0, 1, None, None), ((0, 2), 0, 1, None, ()), ((0, 2), 1, 1, None, None),
            ((0, 2), 0, 2, None, (2,)), ((2, 2), 1, 1, None, ()), ((2, 0, 2), 1, 2, None, ()), ((2, 0, 2), 0, 3, None, (2,)),
            ((3, 1), 0, 1, [], ()), ((1, 3), 1, 1, None, (2,)), ((1, 3), 0, 2, [0], (2,)), ((1, 3), 0, 2, None, (1, 2)),
            ((1, 3), 0, 1, None, None), ((1, 1), 1, 1, None, ()), ((2, 3, 1), 1, 1, [1], None), ((1, 2, 3), 2, 1, [1], ()),
        ]:
            told = piece_for((1, 2), STOCK, row, place, many, looked)
            self.assertTrue(same_kinds(told, piece), (row, place, many, looked, told))

    def test_by_all_rows(self):
        met = {}
        for size, stock, row, place, many, looked in mixed(700, 4):
            price = price_of(stock, row[place:place + many])
            if price > 7:
                continue
            wanted = piece_of(size, stock, row, place, many, looked, by_all_rows(size, stock, price - 1))
            told = piece_for(size, stock, row, place, many, looked)
            self.assertTrue(same_kinds(told, wanted), (size, stock, row, place, many, looked))
            steps = None if told is None else len(told)
            met[steps] = met.get(steps, 0) + 1
        self.assertGreater(min(met[None], met[0], met[1]), 20, met)
        self.assertGreater(met[2], 2, met)

    def test_every_size(self):
        met = []
        for size, stock, row, place, many, looked in asked():
            book = whole_book(size, stock, min(price_of(stock, row[place:place + many]) - 1, 12))
            if price_of(stock, row[place:place + many]) > 13 or len(book) > 500:
                continue
            wanted = piece_of(size, stock, row, place, many, looked, book)
            met.append(piece_for(size, stock, row, place, many, looked))
            self.assertTrue(same_kinds(met[-1], wanted), (size, stock, row, place, many, looked))
        self.assertTrue(100 < met.count(None) < len(met) - 100, met.count(None))

    def test_it_costs_less_and_the_whole_row_tells_the_same(self):
        for size, stock, row, place, many, looked in mixed(300, 6):
            piece = piece_for(size, stock, row, place, many, looked)
            if piece is not None:
                self.assertIs(type(piece), tuple)
                self.assertLess(price_of(stock, piece), price_of(stock, row[place:place + many]))
                changed = row[:place] + piece + row[place + many:]
                self.assertIsNone(parts_at(size, table_of(size, stock, row), table_of(size, stock, changed), looked))

    def test_a_piece_that_costs_as_much_is_none(self):
        stock = [(("put", 0, 0), 2), (("xor", 0, 0), 2), (("take", 0, 0), 1)]
        self.assertIsNone(piece_for((2, 1), stock[:2], (1,), 0, 1))
        self.assertIsNone(piece_for((2, 1), stock[:2], (0,), 0, 1))
        self.assertEqual(piece_for((2, 1), stock, (1,), 0, 1), (2,))
        self.assertEqual(piece_for((2, 1), stock, (0,), 0, 1), (2,))
        self.assertIsNone(piece_for((2, 1), stock, (2,), 0, 1))

    def test_of_several_the_least(self):
        stock = [(("not", 0), 9), (("add", 0, 0), 4), (("up", 0), 2), (("put", 0, 0), 4), (("xor", 0, 0), 4)]
        self.assertEqual(piece_for((2, 1), stock, (0, 4), 0, 2), (3,))
        self.assertEqual(piece_for((2, 1), stock[:3] + stock[4:], (0, 3), 0, 2), (3,))
        self.assertEqual(piece_for((2, 1), stock[:3], (1, 1), 0, 2), (2, 2))
        self.assertEqual(piece_for((2, 1), stock, (0, 0), 0, 2), ())

    def test_left_out_they_are_all_boxes(self):
        for size, stock, row, place, many, _ in mixed(60, 5):
            wanted = piece_for(size, stock, row, place, many, list(range(size[1])))
            self.assertEqual(piece_for(size, stock, row, place, many), wanted)
            self.assertEqual(piece_for(size, stock, row, place, many, looked=None), wanted)

    def test_no_box_looked_at(self):
        for size in SIZES:
            for stock in some_stocks(size)[::5]:
                for row in [(0,), (len(stock) - 1,)]:
                    self.assertEqual(piece_for(size, stock, row, 0, 1, []), ())

    def test_the_whole_of_a_row_of_forty_steps(self):
        for size in SIZES:
            stock = [(("not", 0), 9), (("copy", size[1] - 1, 0), 1), (("and", 0, 0), 9)]
            self.assertEqual(piece_for(size, stock, (0,) * 40, 0, 40), ())
            self.assertEqual(piece_for(size, stock, (0,) * 39 + (2,), 0, 40), (0,))
            wanted = (0, 1) if size[1] > 1 else (0,)
            self.assertEqual(piece_for(size, stock, (2,) * 38 + (0, 1), 0, 40), wanted)
            self.assertEqual(piece_for(size, stock, (2,) * 38 + (0, 1), 0, 38), ())

    def test_just_five_hundred_tables_and_more(self):
        self.assertEqual(len(book_of((1, 3), FIVE_HUNDRED, 34)), 500)
        row = (2, 2, 2, 2, 2, 0, 0)
        # These windows cost 35, 36 and 45.
        self.assertIs(type(piece_for((1, 3), FIVE_HUNDRED, row, 2, 5)), tuple)
        for looked in [None, [], [0]]:
            self.too_great((1, 3), FIVE_HUNDRED, row, 0, 4, looked)
            self.too_great((1, 3), FIVE_HUNDRED, row, 0, 5, looked)
            self.too_great((1, 3), FIVE_HUNDRED, row, 0, 7, looked)
        self.assertEqual(piece_for((1, 3), FIVE_HUNDRED, row, 0, 3, []), ())
        self.assertEqual(piece_for((1, 3), CLOSED, (3,) * 40, 0, 40, []), ())
        self.assertEqual(piece_for((1, 3), CLOSED, (3, 3, 3, 3), 0, 4), (3,))

    def test_what_is_no_window_is_refused(self):
        for size in SIZES:
            for stock in some_stocks(size)[::6]:
                for row in some_rows(stock):
                    for place, many in no_windows(row):
                        with self.assertRaises(NoWindow) as taken:
                            piece_for(size, stock, row, place, many, [0])
                        self.assertIs(type(taken.exception), NoWindow)

    def test_no_window_goes_ahead_of_too_great(self):
        row = (2, 2, 2, 2)
        self.too_great((1, 3), FIVE_HUNDRED, row, 0, 4)
        for place, many in no_windows(row):
            with self.assertRaises(NoWindow):
                piece_for((1, 3), FIVE_HUNDRED, row, place, many)

    def test_what_is_handed_in_stays(self):
        for size, stock, row, place, many, looked in mixed(60, 5):
            told_of(self, piece_for, size, stock, row, place, many, looked)
