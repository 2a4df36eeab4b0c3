import copy
import unittest

from leastrow.stocks import is_stock
from tests.helper import SIZES, all_steps, no_tuples, no_whole_numbers, some_stocks

STOCK = [(("add", 0, 1), 2), (("not", 0), 1)]


class IsStock(unittest.TestCase):
    def yes(self, size, thing):
        self.assertIs(is_stock(size, thing), True, (size, thing))

    def no(self, size, thing):
        self.assertIs(is_stock(size, thing), False, (size, thing))

    def test_some_of_each_size(self):
        for size in SIZES:
            for stock in some_stocks(size):
                self.yes(size, stock)

    def test_each_step_alone_with_each_price(self):
        for size in SIZES:
            for step in all_steps(size):
                for price in range(1, 10):
                    self.yes(size, [(step, price)])

    def test_prices_about_the_bounds(self):
        for size in SIZES:
            for step in all_steps(size):
                for price in [0, 10, -1, -9, 11, 10 ** 100, -10 ** 100]:
                    self.no(size, [(step, price)])
                    self.no(size, [(("put", 0, 0), 1), (step, price)])

    def test_from_one_step_to_eight(self):
        for size in SIZES:
            steps = all_steps(size)
            for many in range(len(steps) + 1):
                stock = [(step, 1 + place % 9) for place, step in enumerate(steps[:many])]
                if 1 <= many <= 8:
                    self.yes(size, stock)
                else:
                    self.no(size, stock)

    def test_a_step_twice(self):
        for size in SIZES:
            for step in all_steps(size):
                self.no(size, [(step, 1), (step, 1)])
                self.no(size, [(step, 1), (step, 2)])
        self.no((2, 2), STOCK + [(("add", 0, 1), 3)])
        self.no((2, 2), STOCK + [(("put", 1, 1), 3), (("not", 0), 1)])

    def test_steps_that_are_alike_but_not_the_same(self):
        self.yes((2, 2), [(("and", 0, 1), 1), (("and", 1, 0), 1), (("and", 0, 0), 1), (("or", 0, 1), 1)])
        self.yes((2, 2), [(("copy", 0, 1), 3), (("put", 0, 1), 3), (("not", 0), 3), (("not", 1), 3)])

    def test_steps_of_another_size(self):
        self.no((2, 2), [(("not", 2), 1)])
        self.no((2, 2), [(("put", 0, 4), 1)])
        self.no((2, 2), STOCK + [(("copy", 0, 2), 1)])
        for size in SIZES:
            bits, boxes = size
            self.no(size, [(("not", boxes), 1)])
            self.no(size, [(("xor", 0, boxes), 1)])
            self.no(size, [(("put", 0, 2 ** bits), 1)])
            self.no(size, [(("not", 0), 1), (("put", 0, -1), 1)])

    def test_one_wrong_part_at_each_place(self):
        good = [(step, 1) for step in all_steps((2, 2))[:8]]
        self.yes((2, 2), good)
        for place in range(8):
            for part in [None, (), (("not", 0),), (("not", 0), 0), (("not", 2), 1), ("not", 0), good[place - 1]]:
                spoiled = list(good)
                spoiled[place] = part
                self.no((2, 2), spoiled)

    def test_other_kinds_in_the_place_of_a_price(self):
        for thing in no_whole_numbers():
            self.no((2, 2), [(("not", 0), thing)])
            self.no((2, 2), STOCK + [(("not", 1), thing)])

    def test_other_kinds_in_the_place_of_a_step(self):
        things = no_whole_numbers() + no_tuples() + [["not", 0], ("not", [0]), ("not", True), ("not",), (["not"], 0)]
        for thing in things:
            self.no((2, 2), [(thing, 1)])
            self.no((2, 2), STOCK + [(thing, 1)])
            self.no((2, 2), [(thing, 1), (thing, 1)])

    def test_tuples_of_other_lengths(self):
        step = ("not", 0)
        for part in [(), (step,), (step, 1, 1), (step, 1, None), (1, step), ((step, 1),), step, ("not", 0, 1)]:
            self.no((2, 2), [part])
            self.no((2, 2), STOCK + [part])

    def test_things_that_are_no_tuple_in_the_list(self):
        for thing in no_tuples() + [[("not", 1), 1], {("not", 1): 1}, "not 1 price 1", [(("not", 1), 1)]]:
            self.no((2, 2), [thing])
            self.no((2, 2), STOCK + [thing])

    def test_things_that_are_no_list(self):
        for size in SIZES:
            for thing in no_whole_numbers() + no_tuples():
                self.no(size, thing)
            for stock in some_stocks(size):
                self.no(size, tuple(stock))
                self.no(size, dict(stock))
                self.no(size, stock[0])
                self.no(size, [stock])
                self.no(size, [list(part) for part in stock])

    def test_nothing_is_changed_and_all_is_told_again(self):
        for thing in [STOCK, [[("not", 0), 1]], [(["not", 0], 1)], [{"not": [0]}], {"not": [0]}]:
            before = copy.deepcopy(thing)
            first = is_stock((2, 2), thing)
            self.assertIs(is_stock((2, 2), thing), first)
            self.assertEqual(thing, before)
