import itertools
import random
import unittest

from leastrow.books import book_of
from leastrow.least import least_row, shows_none
from leastrow.papers import holds
from leastrow.steps import boxes_read, is_step, step_on, written_box
from leastrow.stocks import is_stock
from leastrow.tables import parts_at, table_of
from leastrow.turning import turn_back, turned_boxes, turned_filling, turned_step, turned_stock, turned_table, turned_wish
from leastrow.wishes import does_wish, wish_like
from tests.helper import CLOSED, FIVE_HUNDRED, SIZES, all_steps, every_filling, looked_at, same_kinds, some_rows
from tests.helper import some_stocks, some_tables, some_wishes, told_of


def all_turns(size):
    return list(itertools.permutations(range(size[1])))


def some_turns(size):
    """The turn that leaves all boxes, the one the other way about, one on, and a few more."""
    boxes = tuple(range(size[1]))
    mixed = random.Random(size[1]).sample(all_turns(size), min(3, len(all_turns(size))))
    return list(dict.fromkeys([boxes, boxes[::-1], boxes[1:] + boxes[:1]] + mixed))


def turned_by_words(turn, filling):
    told = [None] * len(turn)
    for box, word in enumerate(filling):
        told[turn[box]] = word
    return tuple(told)


class TurnBack(unittest.TestCase):
    def test_written_out(self):
        for turn, back in [
            ((0,), (0,)), ((0, 1), (0, 1)), ((1, 0), (1, 0)), ((1, 2, 0), (2, 0, 1)), ((2, 0, 1), (1, 2, 0)),
            ((0, 2, 1), (0, 2, 1)), ((3, 0, 2, 1), (1, 3, 2, 0)), ((5, 4, 3, 2, 1, 0), (5, 4, 3, 2, 1, 0)),
        ]:
            self.assertTrue(same_kinds(turn_back(turn), back), turn)

    def test_every_turn(self):
        for boxes in range(1, 7):
            for turn in all_turns((1, boxes)):
                back = turn_back(turn)
                self.assertEqual([turn[back[box]] for box in range(boxes)], list(range(boxes)))
                self.assertEqual([back[turn[box]] for box in range(boxes)], list(range(boxes)))
                self.assertEqual(turn_back(back), turn)
                self.assertIs(type(back), tuple)


class TurnedFilling(unittest.TestCase):
    def test_written_out(self):
        for turn, filling, told in [
            ((0,), (5,), (5,)), ((0, 1), (2, 3), (2, 3)), ((1, 0), (2, 3), (3, 2)),
            ((1, 2, 0), (7, 8, 9), (9, 7, 8)), ((2, 0, 1), (7, 8, 9), (8, 9, 7)),
        ]:
            self.assertTrue(same_kinds(turned_filling(turn, filling), told), (turn, filling))

    def test_every_filling_of_every_size(self):
        for size in SIZES:
            for turn in all_turns(size) if size[1] < 5 else some_turns(size):
                back = turn_back(turn)
                told = [turned_filling(turn, filling) for filling in every_filling(size)]
                self.assertEqual(sorted(told), every_filling(size))
                for filling, turned in zip(every_filling(size), told):
                    self.assertTrue(same_kinds(turned, turned_by_words(turn, filling)))
                    self.assertEqual(turned_filling(back, turned), filling)


class TurnedSteps(unittest.TestCase):
    def test_written_out(self):
        for turn, step, told in [
            ((1, 0), ("add", 0, 1), ("add", 1, 0)), ((1, 0), ("take", 1, 1), ("take", 0, 0)),
            ((1, 2, 0), ("copy", 0, 2), ("copy", 1, 0)), ((1, 2, 0), ("xor", 2, 1), ("xor", 0, 2)),
            ((1, 0), ("not", 0), ("not", 1)), ((2, 0, 1), ("up", 0), ("up", 2)),
            ((2, 0, 1), ("down", 2), ("down", 1)), ((1, 0), ("put", 0, 0), ("put", 1, 0)),
            ((1, 0), ("put", 0, 1), ("put", 1, 1)), ((1, 0), ("put", 1, 7), ("put", 0, 7)),
            ((1, 2, 0), ("put", 2, 2), ("put", 0, 2)), ((0,), ("put", 0, 63), ("put", 0, 63)),
        ]:
            self.assertTrue(same_kinds(turned_step(turn, step), told), (turn, step))

    def test_every_step_of_every_size(self):
        for size in SIZES:
            for turn in some_turns(size):
                for step in all_steps(size):
                    told = turned_step(turn, step)
                    self.assertTrue(is_step(size, told), (turn, step))
                    self.assertTrue(same_kinds(turned_step(turn_back(turn), told), step))
                    self.assertEqual(written_box(told), turn[written_box(step)])
                    self.assertEqual(boxes_read(told), turned_boxes(turn, boxes_read(step)))

    def test_done_turned_it_is_what_is_done_turned(self):
        for size in SIZES:
            for turn in some_turns(size)[:4]:
                for step in all_steps(size)[::2]:
                    told = turned_step(turn, step)
                    for filling in every_filling(size)[::3]:
                        made = turned_filling(turn, step_on(size, step, filling))
                        self.assertEqual(step_on(size, told, turned_filling(turn, filling)), made, (turn, step, filling))

    def test_stocks(self):
        stock = [(("put", 0, 1), 3), (("and", 1, 0), 9), (("down", 1), 1)]
        wanted = [(("put", 1, 1), 3), (("and", 0, 1), 9), (("down", 0), 1)]
        self.assertTrue(same_kinds(turned_stock((1, 0), stock), wanted))
        for size in SIZES:
            for turn in some_turns(size):
                for stock in some_stocks(size):
                    told = told_of(self, turned_stock, turn, stock)
                    self.assertTrue(same_kinds(told, [(turned_step(turn, step), price) for step, price in stock]))
                    self.assertTrue(is_stock(size, told))
                    self.assertTrue(same_kinds(turned_stock(turn_back(turn), told), stock))


class TurnedBoxes(unittest.TestCase):
    def test_written_out(self):
        for turn, looked, told in [
            ((0,), [], []), ((0,), [0], [0]), ((1, 0), [0], [1]), ((1, 0), [1], [0]), ((1, 0), [0, 1], [0, 1]),
            ((1, 2, 0), [0, 2], [0, 1]), ((1, 2, 0), [1, 2], [0, 2]), ((2, 0, 1), [0, 1], [0, 2]), ((2, 0, 1), [], []),
        ]:
            self.assertTrue(same_kinds(turned_boxes(turn, looked), told), (turn, looked))

    def test_every_list_of_boxes_and_every_turn(self):
        for boxes in range(1, 6):
            for turn in all_turns((1, boxes)):
                for looked in looked_at((1, boxes))[1:]:
                    told = told_of(self, turned_boxes, turn, looked)
                    self.assertTrue(same_kinds(told, [box for box in range(boxes) if turn.index(box) in looked]))
                    self.assertEqual(turned_boxes(turn_back(turn), told), looked)


class TurnedTables(unittest.TestCase):
    def test_written_out(self):
        table = ((0, 1), (1, 1), (0, 0), (1, 0))
        self.assertTrue(same_kinds(turned_table((1, 2), (0, 1), table), table))
        self.assertTrue(same_kinds(turned_table((1, 2), (1, 0), table), ((1, 0), (0, 0), (1, 1), (0, 1))))
        cycle = tuple([(0, 0, place % 2) for place in range(8)])
        self.assertTrue(same_kinds(turned_table((1, 3), (1, 2, 0), cycle), ((0, 0, 0),) * 4 + ((1, 0, 0),) * 4))

    def test_for_each_filling_of_every_size(self):
        for size in SIZES:
            every = every_filling(size)
            for turn in some_turns(size):
                for table in some_tables(size):
                    told = turned_table(size, turn, table)
                    self.assertIs(type(told), tuple)
                    self.assertEqual(len(told), len(every))
                    made = dict(zip(every, told))
                    for filling, old in zip(every, table):
                        self.assertTrue(same_kinds(made[turned_by_words(turn, filling)], turned_by_words(turn, old)))
                    self.assertEqual(turned_table(size, turn_back(turn), told), table)

    def test_they_part_where_they_parted(self):
        for size in SIZES:
            for turn in some_turns(size):
                for looked in looked_at(size)[1:9]:
                    for one in some_tables(size)[:2]:
                        for other in some_tables(size)[::2]:
                            turned = [turned_table(size, turn, table) for table in (one, other)]
                            parted = parts_at(size, turned[0], turned[1], turned_boxes(turn, looked)) is None
                            self.assertIs(parted, parts_at(size, one, other, looked) is None)

    def test_what_is_handed_in_stays(self):
        for size in SIZES:
            for turn in some_turns(size):
                told_of(self, turned_table, size, turn, some_tables(size)[4])


class TurnedWishes(unittest.TestCase):
    def test_written_out(self):
        wish = [None, [(0, 0), (0, 1)], [(0, 1), (1, 0)], [(1, 0)]]
        self.assertTrue(same_kinds(turned_wish((1, 2), (0, 1), wish), wish))
        wanted = [None, [(0, 1), (1, 0)], [(0, 0), (1, 0)], [(0, 1)]]
        self.assertTrue(same_kinds(turned_wish((1, 2), (1, 0), wish), wanted))

    def test_for_each_filling_of_every_size(self):
        for size in SIZES:
            every = every_filling(size)
            for turn in some_turns(size):
                for wish in some_wishes(size)[1::2] + [[None] * len(every)]:
                    told = told_of(self, turned_wish, size, turn, wish)
                    self.assertEqual(len(told), len(every))
                    wanted = dict(zip(every, told))
                    for filling, choice in zip(every, wish):
                        turned = wanted[turned_by_words(turn, filling)]
                        if choice is None:
                            self.assertIsNone(turned)
                        else:
                            self.assertTrue(same_kinds(turned, sorted([turned_by_words(turn, made) for made in choice])))
                    self.assertEqual(turned_wish(size, turn_back(turn), told), wish)

    def test_done_by_just_the_turned_tables(self):
        met = []
        for size in SIZES:
            for turn in some_turns(size):
                for table in some_tables(size)[:4]:
                    for wish in some_wishes(size) + [wish_like(size, table, [0])]:
                        met.append(does_wish(size, wish, table))
                        turned = does_wish(size, turned_wish(size, turn, wish), turned_table(size, turn, table))
                        self.assertIs(turned, met[-1])
        self.assertIn(False, met)

    def test_like_a_turned_table(self):
        for size in SIZES:
            for turn in some_turns(size):
                for looked in looked_at(size)[1:6]:
                    for table in some_tables(size)[1::2]:
                        like = wish_like(size, turned_table(size, turn, table), turned_boxes(turn, looked))
                        self.assertEqual(turned_wish(size, turn, wish_like(size, table, looked)), like)


class LeavingAllBoxes(unittest.TestCase):
    def test_all_stays(self):
        for size in SIZES:
            turn = tuple(range(size[1]))
            self.assertEqual(turn_back(turn), turn)
            for filling in every_filling(size):
                self.assertEqual(turned_filling(turn, filling), filling)
            for step in all_steps(size):
                self.assertEqual(turned_step(turn, step), step)
            for stock in some_stocks(size):
                self.assertEqual(turned_stock(turn, stock), stock)
            for looked in looked_at(size)[1:]:
                self.assertEqual(turned_boxes(turn, looked), looked)
            for table in some_tables(size):
                self.assertEqual(turned_table(size, turn, table), table)
            for wish in some_wishes(size):
                self.assertEqual(turned_wish(size, turn, wish), wish)


class AllIsAsItWas(unittest.TestCase):
    def turned_book(self, size, turn, book):
        return [(price, row, turned_table(size, turn, table)) for price, row, table in book]

    def test_tables_of_rows(self):
        for size in SIZES:
            for turn in some_turns(size):
                for stock in some_stocks(size)[3::5]:
                    turned = turned_stock(turn, stock)
                    for row in some_rows(stock)[::3]:
                        wanted = turned_table(size, turn, table_of(size, stock, row))
                        self.assertEqual(table_of(size, turned, row), wanted, (size, turn, stock, row))

    def test_books(self):
        for size in SIZES:
            for turn in some_turns(size):
                for stock in some_stocks(size)[3:12:3]:
                    wanted = self.turned_book(size, turn, book_of(size, stock, 4))
                    self.assertEqual(book_of(size, turned_stock(turn, stock), 4), wanted)
                    self.assertIs(holds(size, turned_stock(turn, stock), 4, wanted), True)

    def test_books_of_five_hundred(self):
        for stock, bound in [(FIVE_HUNDRED, 34), (CLOSED, 40)]:
            book = book_of((1, 3), stock, bound)
            for turn in all_turns((1, 3)):
                wanted = self.turned_book((1, 3), turn, book)
                self.assertEqual(book_of((1, 3), turned_stock(turn, stock), bound), wanted)
                self.assertIs(holds((1, 3), turned_stock(turn, stock), bound, wanted), True)
                self.assertIs(holds((1, 3), turned_stock(turn, stock), bound, wanted[1:]), False)

    def test_least_rows(self):
        met = {"row": 0, "none": 0}
        for size in SIZES:
            for turn in some_turns(size):
                for stock in some_stocks(size)[4:12:3]:
                    like = [wish_like(size, table_of(size, stock, row), [0]) for row in some_rows(stock)[:7:2]]
                    for wish in like + some_wishes(size)[::3]:
                        told = least_row(size, stock, 4, wish)
                        wanted = told[:-1] + (self.turned_book(size, turn, told[-1]),)
                        turned = turned_wish(size, turn, wish)
                        self.assertEqual(least_row(size, turned_stock(turn, stock), 4, turned), wanted)
                        if told[0] == "none":
                            self.assertIs(shows_none(size, turned_stock(turn, stock), 4, turned, wanted[1]), True)
                        met[told[0]] += 1
        self.assertTrue(min(met.values()) > 50, met)
