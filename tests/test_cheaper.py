import random
import unittest

from leastrow.cheaper import gone_through, is_cheap, made_cheaper
from leastrow.errors import NoChange, TooGreat
from leastrow.later import pruned
from leastrow.rows import price_of
from leastrow.tables import parts_at, table_of
from leastrow.windows import piece_for
from tests.helper import FIVE_HUNDRED, SIZES, all_steps, looked_at, piece_of, same_kinds, small_stock, some_rows, some_stocks
from tests.helper import told_of, whole_book

STOCK = [(("not", 0), 1), (("copy", 1, 0), 2), (("put", 0, 0), 2), (("xor", 0, 1), 3)]
STILL = [(("and", 0, 0), 9), (("or", 0, 0), 5), (("copy", 0, 0), 1)]

# The last step is so dear that up to its price there are more than five hundred tables.
RICH = [
    (("add", 0, 1), 1), (("xor", 1, 2), 1), (("and", 2, 0), 1), (("not", 0), 1), (("up", 1), 1), (("copy", 0, 2), 1),
    (("down", 2), 1), (("put", 1, 3), 9),
]
DEAR = 7

# Up to 5 there are fewer than five hundred tables, up to 7 more: with four of the dearer steps it is too great.
WIDE = [(step, 2 if place < 4 else 1) for place, (step, _) in enumerate(RICH)]

FAR = 10 ** 30


def windows_of(row, width):
    return [(place, many) for many in range(1, width + 1) for place in range(len(row) - many + 1)]


def plain_piece(size, stock, row, place, many, looked):
    book = whole_book(size, stock, price_of(stock, row[place:place + many]) - 1)
    if len(book) > 500:
        raise TooGreat()
    return piece_of(size, stock, row, place, many, looked, book)


def plain_change(size, stock, row, looked, width):
    for place, many in windows_of(row, width):
        piece = plain_piece(size, stock, row, place, many, looked)
        if piece is not None:
            return (place, many, piece)
    return None


def plainly_cheaper(size, stock, row, looked, width):
    """As point 31 tells it, with books and pieces that are made anew for each window."""
    changes = []
    while True:
        change = plain_change(size, stock, row, looked, width)
        if change is None:
            return row, changes
        changes.append(change)
        row = row[:change[0]] + change[2] + row[change[0] + change[1]:]


def mixed(times, steps=6, most=4, sizes=((1, 1), (1, 2), (1, 3), (2, 1), (2, 2), (3, 1))):
    chance = random.Random(times)
    for _ in range(times):
        size = chance.choice(sizes)
        stock = [(step, chance.randint(1, most)) for step in chance.sample(all_steps(size), chance.randint(3, 6))]
        row = tuple(chance.randrange(len(stock)) for _ in range(chance.randint(0, steps)))
        yield size, stock, row, chance.choice(looked_at(size)), chance.randint(1, 4)


def of_every_size(steps):
    """Rows of so many steps over stocks whose books stay small."""
    chance = random.Random(steps)
    for size in SIZES:
        for looked in [None, [], [0], [size[1] - 1], list(range(size[1]))]:
            yield size, small_stock(size), tuple(chance.randrange(5) for _ in range(steps)), looked


class GoneThrough(unittest.TestCase):
    def refused(self, at, size, stock, row, changes, looked=None):
        with self.assertRaises(NoChange) as taken:
            gone_through(size, stock, row, changes, looked)
        self.assertIs(type(taken.exception), NoChange)
        self.assertIs(type(taken.exception.at), int)
        self.assertEqual(taken.exception.at, at, (row, changes, looked))

    def test_written_out(self):
        for row, changes, looked, told in [
            ((), [], None, ()), ((0, 1), [], None, (0, 1)), ((0, 1), [], [], (0, 1)),
            ((0, 0), [(0, 2, ())], None, ()), ((0, 0, 1), [(0, 2, ())], None, (1,)),
            ((1, 0, 0), [(1, 2, ())], None, (1,)), ((1, 0, 0, 1), [(1, 2, ()), (0, 1, ())], None, (1,)),
            ((1, 3), [(1, 1, (2,))], None, (1, 2)), ((1, 3), [(0, 2, (2,))], [0], (2,)),
            ((0, 1), [(0, 2, ())], [], ()), ((0, 1), [(1, 1, ())], [0], (0,)),
            ((3, 0, 2), [(0, 1, ()), (0, 2, (2,))], None, (2,)), ((3, 2), [(0, 2, (0, 2))], None, (0, 2)),
            ((3, 2), [(0, 2, (0, 2)), (0, 1, ())], None, (2,)), ((2, 2, 2), [(2, 1, ()), (0, 1, ())], [0, 1], (2,)),
        ]:
            self.assertTrue(same_kinds(gone_through((1, 2), STOCK, row, changes, looked), told), (row, changes, looked))

    def test_no_changes(self):
        for size in SIZES:
            for stock in some_stocks(size)[::5]:
                for row in some_rows(stock):
                    for looked in looked_at(size)[:4]:
                        self.assertTrue(same_kinds(told_of(self, gone_through, size, stock, row, [], looked), row))
                    self.assertEqual(gone_through(size, stock, row, []), row)

    def test_what_is_no_window_is_refused(self):
        row = (0, 0, 0, 0)
        for place, many in [
            (0, 0), (-1, 1), (-1, 2), (-2, 2), (-4, 4), (4, 1), (4, 0), (3, 2), (0, 5), (0, -1), (1, -1), (5, -1),
            (-1, 0), (FAR, 1), (-FAR, 1), (0, FAR), (0, -FAR), (-FAR, FAR), (FAR, -FAR), (-FAR, FAR + 2),
        ]:
            for looked in [None, [], [0]]:
                self.refused(0, (1, 2), STOCK, row, [(place, many, ())], looked)
                self.refused(1, (1, 2), STOCK, row + (0, 0), [(4, 2, ()), (place, many, ())], looked)
                self.refused(0, (1, 2), STOCK, (), [(place, many, ())], looked)

    def test_a_window_is_one_of_the_row_by_then(self):
        row = (0, 0, 0, 0)
        self.assertEqual(gone_through((1, 2), STOCK, row, [(2, 2, ()), (0, 2, ())]), ())
        self.assertEqual(gone_through((1, 2), STOCK, row, [(0, 2, ()), (0, 2, ())]), ())
        self.refused(1, (1, 2), STOCK, row, [(0, 2, ()), (2, 2, ())])
        self.refused(2, (1, 2), STOCK, row, [(0, 2, ()), (0, 2, ()), (0, 1, ())])

    def test_a_piece_that_costs_as_much_or_more_is_refused(self):
        stock = [(("put", 0, 0), 2), (("xor", 0, 0), 2), (("take", 0, 0), 1), (("and", 0, 0), 1), (("put", 0, 1), 3)]
        for looked in [None, [], [0]]:
            for piece in [(0,), (1,), (2, 2), (2, 3), (3, 2), (2, 2, 3), (4, 2), (0,) * 40]:
                self.refused(0, (2, 1), stock, (0,), [(0, 1, piece)], looked)
                self.refused(0, (2, 1), stock, (3, 0, 3), [(1, 1, piece)], looked)
            self.assertEqual(gone_through((2, 1), stock, (0,), [(0, 1, (2,))], looked), (2,))
            self.assertEqual(gone_through((2, 1), stock, (3, 0), [(0, 2, (1,))], looked), (1,))
            self.assertEqual(gone_through((2, 1), stock, (4, 4, 0), [(0, 3, (3, 3, 3, 3, 3, 3, 2))], looked), (3,) * 6 + (2,))
        self.refused(1, (2, 1), stock, (0,), [(0, 1, (2,)), (0, 1, (2,))])

    def test_a_row_that_tells_another_word_is_refused(self):
        for row, change, looked in [
            ((0,), (0, 1, ()), None), ((0,), (0, 1, ()), [0]), ((1,), (0, 1, (0,)), [1]), ((1,), (0, 1, ()), [1]),
            ((0, 0), (1, 1, ()), [0]), ((1, 2), (1, 1, (0,)), [0]), ((1, 2), (0, 2, (2,)), [1]),
            ((3,), (0, 1, (2,)), [0]), ((1, 0), (0, 2, (0,)), None), ((2, 0), (0, 2, (2,)), [0]),
        ]:
            self.refused(0, (1, 2), STOCK, row, [change], looked)
            self.assertIs(type(gone_through((1, 2), STOCK, row, [change], [])), tuple)
            after = [(0, 2, ()), change]
            self.refused(1, (1, 2), STOCK, (0, 0) + row, after, looked)
            self.refused(1, (1, 2), STOCK, (0, 0) + row, after + [(FAR, 1, ())], looked)

    def test_only_looked_at_boxes_count(self):
        for row, change, looked in [
            ((0,), (0, 1, ()), [1]), ((1,), (0, 1, ()), [0]), ((1, 2), (0, 2, (2,)), [0]), ((1, 0), (0, 2, (1,)), [1]),
        ]:
            self.assertEqual(gone_through((1, 2), STOCK, row, [change], looked), change[2])
            self.refused(0, (1, 2), STOCK, row, [change])
            self.refused(0, (1, 2), STOCK, row, [change], [0, 1])

    def test_a_piece_with_a_step_that_there_is_not_is_refused(self):
        for number in [4, 5, -1, -4, -5, FAR, -FAR]:
            for piece in [(number,), (0, number), (number, 0)]:
                for looked in [None, [], [1]]:
                    self.refused(0, (1, 2), STOCK, (2, 3, 3, 3), [(0, 4, piece)], looked)
                    self.refused(1, (1, 2), STOCK, (0, 0, 2, 3, 3), [(0, 2, ()), (0, 3, piece)], looked)

    def test_the_first_such_change_is_told(self):
        good, bad = (0, 1, (1,)), (0, 1, (0,))
        row = (0,) * 12
        for before in range(12):
            changes = [(place, 1, (1,)) for place in range(before)]
            self.refused(before, (1, 1), STILL, row, changes + [(before, 1, (0,))])
            self.refused(before, (1, 1), STILL, row, changes + [(before, 1, (0,)), bad, good])

    def test_lists_of_sixty_changes(self):
        row = (0,) * 40
        changes = [(place, 1, (1,)) for place in range(40)] + [(place, 1, (2,)) for place in range(20)]
        for size in SIZES:
            self.assertEqual(told_of(self, gone_through, size, STILL, row, changes), (2,) * 20 + (1,) * 20)
        self.refused(59, (1, 2), STILL, row, changes[:59] + [(0, 1, (2,))])
        self.refused(0, (1, 2), STILL, row, [(40, 1, ())] + changes[1:])

    def test_of_changes_that_were_told_the_row_that_was_told(self):
        for size, stock, row, looked, width in mixed(150, 8):
            told, changes = made_cheaper(size, stock, row, looked, width)
            self.assertTrue(same_kinds(told_of(self, gone_through, size, stock, row, changes, looked), told))
            for at in range(len(changes)):
                # The piece, put there once more, costs as much as what stands there.
                place, _, piece = changes[at]
                again = changes[:at + 1] + [(place, len(piece), piece)] + changes[at + 1:]
                self.refused(at + 1, size, stock, row, again, looked)

    def test_each_change_by_the_words(self):
        chance = random.Random(29)
        met = []
        for size, stock, row, looked, _ in mixed(1500, 5):
            place, many = chance.randint(-1, 5), chance.randint(0, 3)
            piece = tuple(chance.randrange(len(stock)) for _ in range(chance.randint(0, 2)))
            good = place >= 0 and many >= 1 and place + many <= len(row)
            good = good and price_of(stock, piece) < price_of(stock, row[place:place + many])
            if good:
                changed = row[:place] + piece + row[place + many:]
                tables = [table_of(size, stock, steps) for steps in (row, changed)]
                good = parts_at(size, tables[0], tables[1], looked) is None
            met.append(good)
            if good:
                self.assertEqual(gone_through(size, stock, row, [(place, many, piece)], looked), changed)
            else:
                self.refused(0, size, stock, row, [(place, many, piece)], looked)
        self.assertTrue(100 < met.count(True) < 1400, met.count(True))


class IsCheap(unittest.TestCase):
    def too_great(self, *handed):
        with self.assertRaises(TooGreat) as taken:
            is_cheap(*handed)
        self.assertIs(type(taken.exception), TooGreat)

    def test_written_out(self):
        for row, looked, width, cheap in [
            ((), None, 1, True), ((), [], 4, True), ((0,), None, 1, True), ((0,), [1], 1, False),
            ((0,), [], 1, False), ((0, 0), None, 1, True), ((0, 0), None, 2, False), ((0, 0), [1], 1, False),
            ((1, 3), None, 1, False), ((1, 2), None, 1, True), ((1, 2), None, 2, True), ((1, 2), [0], 1, False),
            ((0, 1, 0), None, 3, True), ((0, 1, 0), [1], 3, False), ((0, 1, 0, 1), None, 2, False),
            ((3, 3), None, 1, True), ((3, 3), None, 2, False),
        ]:
            self.assertIs(is_cheap((1, 2), STOCK, row, looked, width), cheap, (row, looked, width))

    def test_the_row_without_steps_is_cheap(self):
        for size in SIZES:
            for stock in some_stocks(size):
                for looked in looked_at(size)[:4]:
                    for width in [1, 2, 3, 4]:
                        self.assertIs(is_cheap(size, stock, (), looked, width), True)
                self.assertIs(is_cheap(size, stock, ()), True)

    def test_where_no_window_has_a_piece(self):
        met = []
        for size, stock, row, looked, width in mixed(250, 5):
            pieces = [plain_piece(size, stock, row, place, many, looked) for place, many in windows_of(row, width)]
            met.append(all([piece is None for piece in pieces]))
            self.assertIs(told_of(self, is_cheap, size, stock, row, looked, width), met[-1], (size, stock, row, looked, width))
        self.assertTrue(30 < met.count(True) < 220, met.count(True))

    def test_every_size(self):
        for size, stock, row, looked in of_every_size(4):
            for width in [1, 2]:
                cheap = plain_change(size, stock, row, looked, width) is None
                self.assertIs(is_cheap(size, stock, row, looked, width), cheap)

    def test_left_out_the_width_is_two_and_the_boxes_are_all(self):
        for size, stock, row, looked, _ in mixed(200, 5):
            cheap = is_cheap(size, stock, row, looked, 2)
            self.assertIs(is_cheap(size, stock, row, looked), cheap)
            self.assertIs(is_cheap(size, stock, row, looked=looked, width=2), cheap)
            whole = is_cheap(size, stock, row, list(range(size[1])), 2)
            self.assertIs(is_cheap(size, stock, row), whole)
            self.assertIs(is_cheap(size, stock, row, None), whole)
        stock = [(("not", 0), 2), (("not", 1), 3)]
        self.assertIs(is_cheap((1, 2), stock, (0, 0), None, 1), True)
        self.assertIs(is_cheap((1, 2), stock, (0, 0)), False)
        self.assertIs(is_cheap((1, 2), stock, (0, 1, 0)), True)
        self.assertIs(is_cheap((1, 2), stock, (0, 1, 0), None, 3), False)

    def test_a_greater_width_asks_for_more(self):
        stock = [(("not", 0), 2), (("not", 1), 3), (("not", 2), 5)]
        for least, row in [(2, (0, 0)), (3, (0, 1, 0)), (4, (0, 1, 2, 0)), (5, (0,))]:
            for width in [1, 2, 3, 4]:
                self.assertIs(is_cheap((1, 3), stock, row, None, width), width < least, (row, width))

    def test_too_great_where_such_a_window_is_come_to(self):
        self.too_great((2, 3), RICH, (DEAR,), None, 1)
        self.too_great((2, 3), RICH, (DEAR,))
        self.too_great((2, 3), RICH, (DEAR,), [], 1)
        self.too_great((2, 3), RICH, (DEAR, 3), [1], 1)
        self.too_great((2, 3), RICH, (0, 3, DEAR), None, 1)

    def test_not_behind_the_first_window_that_has_a_piece(self):
        self.assertIs(is_cheap((2, 3), RICH, (3, DEAR), [1], 1), False)
        self.assertIs(is_cheap((2, 3), RICH, (3, DEAR), [], 4), False)
        self.assertIs(is_cheap((2, 3), RICH, (4, DEAR)), False)
        self.too_great((2, 3), RICH, (DEAR, 4), [0], 1)
        # The whole row costs 36, one step of it 9.
        self.assertIs(is_cheap((1, 3), FIVE_HUNDRED, (2, 2, 2, 2), None, 4), False)

    def test_not_where_the_width_keeps_from_it(self):
        for width in [1, 2, 3]:
            self.assertIs(is_cheap((2, 3), WIDE, (1, 0, 2, 0), None, width), True)
        self.too_great((2, 3), WIDE, (1, 0, 2, 0), None, 4)


class MadeCheaper(unittest.TestCase):
    def too_great(self, *handed):
        with self.assertRaises(TooGreat) as taken:
            made_cheaper(*handed)
        self.assertIs(type(taken.exception), TooGreat)

    def sound(self, size, stock, row, looked, width):
        told, changes = made_cheaper(size, stock, row, looked, width)
        self.assertIs(type(told), tuple)
        self.assertIs(type(changes), list)
        self.assertIs(is_cheap(size, stock, told, looked, width), True)
        self.assertIs(is_cheap(size, stock, row, looked, width), changes == [])
        self.assertTrue(same_kinds(made_cheaper(size, stock, told, looked, width), (told, [])))
        self.assertIsNone(parts_at(size, table_of(size, stock, row), table_of(size, stock, told), looked))
        self.assertTrue(same_kinds(gone_through(size, stock, row, changes, looked), told))
        self.assertEqual(pruned(size, stock, told, looked), (told, []))
        self.assertTrue(price_of(stock, told) < price_of(stock, row) or told == row)
        return len(changes)

    def test_written_out(self):
        for row, looked, width, told in [
            ((), None, 1, ((), [])), ((), [], 4, ((), [])), ((0,), None, 1, ((0,), [])),
            ((0,), [1], 1, ((), [(0, 1, ())])), ((0, 0), None, 1, ((0, 0), [])),
            ((0, 0), None, 2, ((), [(0, 2, ())])), ((0, 0), [], 2, ((), [(0, 1, ()), (0, 1, ())])),
            ((1, 3), None, 1, ((1, 2), [(1, 1, (2,))])), ((1, 3), [0], 1, ((2,), [(1, 1, (2,)), (0, 1, ())])),
            ((0, 0, 1, 3), None, 2, ((1, 2), [(3, 1, (2,)), (0, 2, ())])), ((2, 0, 0), None, 2, ((2,), [(1, 2, ())])),
            ((2, 2, 0, 2), None, 1, ((2,), [(0, 1, ()), (0, 1, ()), (0, 1, ())])),
            ((0, 1, 2), [0], 2, ((2,), [(0, 1, ()), (0, 1, ())])),
        ]:
            self.assertTrue(same_kinds(made_cheaper((1, 2), STOCK, row, looked, width), told), (row, looked, width))

    def test_by_pieces_made_anew(self):
        many = 0
        for size, stock, row, looked, width in mixed(200, 6):
            wanted = plainly_cheaper(size, stock, row, looked, width)
            told = told_of(self, made_cheaper, size, stock, row, looked, width)
            self.assertTrue(same_kinds(told, wanted), (size, stock, row, looked, width))
            many += len(told[1]) > 2
        self.assertGreater(many, 20)

    def test_every_size_by_pieces_made_anew(self):
        for size, stock, row, looked in of_every_size(4):
            for width in [1, 3]:
                wanted = plainly_cheaper(size, stock, row, looked, width)
                self.assertTrue(same_kinds(made_cheaper(size, stock, row, looked, width), wanted))

    def test_rows_of_twelve_steps_of_every_size(self):
        for size, stock, row, looked in of_every_size(12):
            for width in [1, 2, 3, 4]:
                self.sound(size, stock, row, looked, width)

    def test_what_is_told_of_mixed_rows(self):
        changes = [self.sound(*handed) for handed in mixed(300, 12)]
        self.assertTrue(20 < changes.count(0) < 150, changes.count(0))
        changes = []
        for handed in mixed(60, 12, 9, ((2, 3), (3, 2), (1, 6), (1, 5), (6, 1))):
            try:
                changes.append(self.sound(*handed))
            except TooGreat:
                self.too_great(*handed)
        self.assertGreater(len(changes), 30)

    def test_a_row_that_grows_longer(self):
        stock = [(("put", 0, 8), 9), (("up", 0), 1), (("put", 0, 1), 2)]
        self.assertTrue(same_kinds(made_cheaper((4, 1), stock, (0,), None, 1), ((2, 1, 1, 1), [(0, 1, (2, 1, 1, 1))])))
        row = (0, 1) * 6
        told, changes = made_cheaper((4, 1), stock, row, None, 1)
        self.assertEqual(told, (1, 1, 1, 1))
        self.assertTrue(same_kinds((told, changes), plainly_cheaper((4, 1), stock, row, None, 1)))

    def test_first_the_windows_of_one_step(self):
        # The last step goes first, though the first two could go together.
        row = (0, 0, 1, 1)
        stock = [(("not", 0), 1), (("put", 1, 0), 1)]
        self.assertEqual(made_cheaper((1, 2), stock, row, None, 2), ((1,), [(2, 1, ()), (0, 2, ())]))
        self.assertEqual(made_cheaper((1, 2), stock, row, None, 1), ((0, 0, 1), [(2, 1, ())]))

    def test_each_time_it_is_begun_anew(self):
        # With the pair gone, the first step alone may go, ahead of all windows that are wider.
        stock = [(("put", 0, 1), 2), (("not", 1), 1), (("add", 0, 1), 3)]
        row = (0, 1, 1, 0)
        told, changes = made_cheaper((2, 2), stock, row, None, 2)
        self.assertEqual((told, changes), plainly_cheaper((2, 2), stock, row, None, 2))
        self.assertEqual(changes, [(0, 1, ()), (0, 2, ())])
        stock = [(("not", 0), 1), (("put", 0, 0), 2), (("copy", 1, 0), 1)]
        row = (1, 2, 0, 0, 1)
        self.assertEqual(made_cheaper((1, 2), stock, row, None, 2), plainly_cheaper((1, 2), stock, row, None, 2))

    def test_left_out_the_width_is_two_and_the_boxes_are_all(self):
        for size, stock, row, looked, _ in mixed(120, 6):
            wanted = made_cheaper(size, stock, row, looked, 2)
            self.assertEqual(made_cheaper(size, stock, row, looked), wanted)
            self.assertEqual(made_cheaper(size, stock, row, looked=looked, width=2), wanted)
            wanted = made_cheaper(size, stock, row, list(range(size[1])), 2)
            self.assertEqual(made_cheaper(size, stock, row), wanted)
            self.assertEqual(made_cheaper(size, stock, row, None), wanted)

    def test_no_box_looked_at(self):
        for size, stock, row, _ in of_every_size(12):
            for width in [1, 2, 3, 4]:
                wanted = ((), [(0, 1, ())] * 12)
                self.assertTrue(same_kinds(made_cheaper(size, stock, row, [], width), wanted))

    def test_each_change_is_the_first_window_that_has_a_piece(self):
        for size, stock, row, looked, width in mixed(100, 8):
            for place, many, piece in made_cheaper(size, stock, row, looked, width)[1]:
                for window in windows_of(row, width):
                    if window == (place, many):
                        break
                    self.assertIsNone(piece_for(size, stock, row, window[0], window[1], looked))
                self.assertEqual(piece_for(size, stock, row, place, many, looked), piece)
                row = row[:place] + piece + row[place + many:]

    def test_too_great_where_such_a_window_is_come_to(self):
        self.too_great((2, 3), RICH, (DEAR,), None, 1)
        self.too_great((2, 3), RICH, (DEAR,))
        self.too_great((2, 3), RICH, (DEAR,), [], 1)
        # Only after some changes it is come to.
        self.too_great((2, 3), RICH, (3, DEAR), [1], 1)
        self.too_great((2, 3), RICH, (3, 3, 3, DEAR), [1], 2)

    def test_not_where_it_is_not_come_to(self):
        # The whole row costs 36, one step of it 9.
        row = (2, 2, 2, 2)
        with self.assertRaises(TooGreat):
            piece_for((1, 3), FIVE_HUNDRED, row, 0, 4)
        self.assertEqual(made_cheaper((1, 3), FIVE_HUNDRED, row, None, 4)[0], (2,))
        self.assertEqual(made_cheaper((1, 3), FIVE_HUNDRED, row, [], 4), ((), [(0, 1, ())] * 4))
        for width in [1, 2, 3]:
            self.assertEqual(made_cheaper((2, 3), WIDE, (1, 0, 2, 0), None, width), ((1, 0, 2, 0), []))
        self.too_great((2, 3), WIDE, (1, 0, 2, 0), None, 4)
