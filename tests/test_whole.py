"""What is promised over the whole program: point 4, and point 24 of what is made of turned boxes."""

import itertools
import random
import unittest

from leastrow.books import book_of
from leastrow.cheaper import gone_through, is_cheap, made_cheaper
from leastrow.errors import TooGreat
from leastrow.examples import wish_of
from leastrow.later import boxes_later, pruned
from leastrow.least import least_row, shows_none
from leastrow.papers import holds
from leastrow.reports import report
from leastrow.rows import is_less, price_of
from leastrow.stocktexts import show_stock
from leastrow.tables import parts_at, table_of
from leastrow.turning import turned_boxes, turned_filling, turned_stock, turned_wish
from leastrow.windows import piece_for, wish_at
from leastrow.wishes import does_wish
from tests.helper import SIZES, all_steps, every_filling, looked_at, some_wishes


def told_or_too_great(asked, *handed):
    try:
        return asked(*handed)
    except TooGreat:
        return "too great"


def mixed(times, seed):
    chance = random.Random(seed)
    for _ in range(times):
        size = chance.choice(SIZES)
        steps = chance.sample(all_steps(size), chance.randint(1, 8))
        stock = [(step, chance.randint(1, 9)) for step in steps]
        row = tuple(chance.randrange(len(stock)) for _ in range(chance.randint(0, 12)))
        yield chance, size, stock, row, chance.choice(looked_at(size)), chance.randint(1, 4)


class LeastRows(unittest.TestCase):
    def test_either_a_row_and_a_book_or_a_book(self):
        met = {"row": 0, "none": 0, "too great": 0}
        for chance, size, stock, _, _, _ in mixed(120, 41):
            bound = chance.choice([0, 1, 5, 9, 17, 40])
            for wish in some_wishes(size)[::2]:
                told = told_or_too_great(least_row, size, stock, bound, wish)
                if told == "too great":
                    met[told] += 1
                    self.assertEqual(told_or_too_great(book_of, size, stock, bound), "too great")
                    continue
                met[told[0]] += 1
                up_to = bound if told[0] == "none" else price_of(stock, told[1]) - 1
                self.assertLessEqual(up_to, bound)
                self.assertIs(holds(size, stock, up_to, told[-1]), True)
                self.assertIs(shows_none(size, stock, up_to, wish, told[-1]), True)
                if told[0] == "row":
                    self.assertTrue(does_wish(size, wish, table_of(size, stock, told[1])))
        self.assertGreater(min(met.values()), 20, met)

    def test_no_row_of_few_steps_is_less(self):
        for chance, size, stock, _, _, _ in mixed(60, 42):
            every = every_filling(size)
            made = table_of(size, stock, tuple(chance.randrange(len(stock)) for _ in range(3)))
            places = chance.sample(range(len(every)), 2)
            wish = wish_of(size, [(every[place], made[place]) for place in places])
            told = told_or_too_great(least_row, size, stock, 27, wish)
            if told == "too great":
                continue
            self.assertEqual(told[0], "row")
            for many in range(4):
                for row in itertools.product(range(len(stock)), repeat=many):
                    if is_less(stock, row, told[1]):
                        self.assertFalse(does_wish(size, wish, table_of(size, stock, row)), (size, stock, wish, row))


class Cheaper(unittest.TestCase):
    def test_all_that_is_promised_of_rows_made_cheaper(self):
        met = {"cheaper": 0, "stays": 0, "too great": 0}
        for _, size, stock, row, looked, width in mixed(250, 43):
            told = told_or_too_great(made_cheaper, size, stock, row, looked, width)
            if told == "too great":
                met[told] += 1
                continue
            cheap, changes = told
            met["cheaper" if changes else "stays"] += 1
            self.assertIsNone(parts_at(size, table_of(size, stock, row), table_of(size, stock, cheap), looked))
            self.assertEqual(pruned(size, stock, cheap, looked), (cheap, []))
            self.assertEqual(made_cheaper(size, stock, cheap, looked, width), (cheap, []))
            self.assertIs(is_cheap(size, stock, cheap, looked, width), True)
            self.assertEqual(gone_through(size, stock, row, changes, looked), cheap)
            for many in range(1, width + 1):
                for place in range(len(cheap) - many + 1):
                    self.assertIsNone(piece_for(size, stock, cheap, place, many, looked))
        self.assertGreater(min(met["cheaper"], met["stays"]), 20, met)


class TurnedAbout(unittest.TestCase):
    def turned(self, times, seed):
        for chance, size, stock, row, looked, width in mixed(times, seed):
            turn = tuple(chance.sample(range(size[1]), size[1]))
            looked = list(range(size[1])) if looked is None else looked
            yield chance, size, stock, row, looked, width, turn

    def test_boxes_later_and_pruned(self):
        for _, size, stock, row, looked, _, turn in self.turned(200, 44):
            stock_turned, looked_turned = turned_stock(turn, stock), turned_boxes(turn, looked)
            later = [turned_boxes(turn, boxes) for boxes in boxes_later(size, stock, row, looked)]
            self.assertEqual(boxes_later(size, stock_turned, row, looked_turned), later)
            self.assertEqual(pruned(size, stock_turned, row, looked_turned), pruned(size, stock, row, looked))

    def test_windows(self):
        for chance, size, stock, row, looked, _, turn in self.turned(120, 45):
            if row == ():
                continue
            place = chance.randrange(len(row))
            many = chance.randint(1, min(4, len(row) - place))
            stock_turned, looked_turned = turned_stock(turn, stock), turned_boxes(turn, looked)
            wish = turned_wish(size, turn, wish_at(size, stock, row, place, many, looked))
            self.assertEqual(wish_at(size, stock_turned, row, place, many, looked_turned), wish)
            piece = told_or_too_great(piece_for, size, stock, row, place, many, looked)
            self.assertEqual(told_or_too_great(piece_for, size, stock_turned, row, place, many, looked_turned), piece)

    def test_rows_made_cheaper(self):
        for _, size, stock, row, looked, width, turn in self.turned(150, 46):
            stock_turned, looked_turned = turned_stock(turn, stock), turned_boxes(turn, looked)
            for asked in [made_cheaper, is_cheap]:
                told = told_or_too_great(asked, size, stock, row, looked, width)
                self.assertEqual(told_or_too_great(asked, size, stock_turned, row, looked_turned, width), told)

    def test_reports(self):
        answered = 0
        for chance, size, stock, row, looked, width, turn in self.turned(100, 47):
            filling, made = chance.choice(every_filling(size)), chance.choice(every_filling(size))
            asks = []
            sides_turned = [turned_filling(turn, filling), turned_filling(turn, made)]
            for sides, boxes in [([filling, made], looked), (sides_turned, turned_boxes(turn, looked))]:
                example = "=".join([",".join([str(word) for word in side]) for side in sides])
                words = ["cheap", "width", width, "look"] + boxes + ["row"] + list(row)
                asks.append("least bound 6 " + example + "\n" + " ".join([str(word) for word in words]))
            told = told_or_too_great(report, show_stock(size, stock) + "\n" + asks[0])
            turned = told_or_too_great(report, show_stock(size, turned_stock(turn, stock)) + "\n" + asks[1])
            self.assertEqual(turned, told)
            answered += told != "too great"
        self.assertGreater(answered, 50)
