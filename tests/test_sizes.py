import copy
import itertools
import unittest

from leastrow.sizes import fillings, is_size, number_of
from tests.helper import SIZES, no_tuples, no_whole_numbers


class IsSize(unittest.TestCase):
    def yes(self, thing):
        self.assertIs(is_size(thing), True, thing)

    def no(self, thing):
        self.assertIs(is_size(thing), False, thing)

    def test_the_fourteen(self):
        self.assertEqual(len(SIZES), 14)
        for size in SIZES:
            self.yes(size)

    def test_every_pair_of_numbers_near_the_bounds(self):
        for pair in itertools.product(range(-8, 20), repeat=2):
            if pair in SIZES:
                self.yes(pair)
            else:
                self.no(pair)

    def test_products_about_the_bound(self):
        for pair in [(1, 6), (2, 3), (3, 2), (6, 1)]:
            self.yes(pair)
        for pair in [(1, 7), (7, 1), (2, 4), (4, 2), (3, 3), (5, 2), (6, 6)]:
            self.no(pair)

    def test_nought_and_below(self):
        for pair in [(0, 0), (0, 1), (1, 0), (0, 6), (-1, 1), (1, -1), (-1, -1), (-2, -3), (-1, -6)]:
            self.no(pair)

    def test_far_beyond(self):
        far = 10 ** 1000
        for pair in [(far, 1), (1, far), (far, far), (-far, 1), (1, -far), (-far, -far), (0, far), (far, 0)]:
            self.no(pair)

    def test_tuples_of_other_lengths(self):
        for thing in [(), (1,), (6,), (1, 1, 1), (2, 3, 1), (1, 1, None), (1, 2, 3, 4), ((1, 1),)]:
            self.no(thing)

    def test_other_kinds_as_parts(self):
        for part in no_whole_numbers():
            self.no((part, 1))
            self.no((1, part))
            self.no((part, part))
            self.no((part,))

    def test_truths_are_no_whole_numbers(self):
        for pair in [(True, 1), (1, True), (True, True), (True, 6), (6, True), (False, 1)]:
            self.no(pair)

    def test_things_that_are_no_tuple(self):
        for thing in no_tuples() + [[1, 1], [2, 3], [1, 6], "11", {1: 1, 2: 3}]:
            self.no(thing)

    def test_nothing_is_changed_and_all_is_told_again(self):
        for thing in [[1, 1], {1: 1}, ([1], {2: 3}), (1, [1])]:
            before = copy.deepcopy(thing)
            self.assertEqual([is_size(thing), is_size(thing)], [False, False])
            self.assertEqual(thing, before)


class Fillings(unittest.TestCase):
    def test_all_of_each_size_in_their_order(self):
        for size in SIZES:
            bits, boxes = size
            told = fillings(size)
            self.assertIs(type(told), list)
            self.assertEqual(len(told), 2 ** (bits * boxes))
            self.assertEqual(told, list(itertools.product(range(2 ** bits), repeat=boxes)))
            self.assertEqual(told, sorted(told))
            self.assertEqual(len(set(told)), len(told))

    def test_their_kinds(self):
        for size in SIZES:
            for filling in fillings(size):
                self.assertIs(type(filling), tuple)
                self.assertEqual([type(word) for word in filling], [int] * size[1])

    def test_written_out(self):
        self.assertEqual(fillings((1, 1)), [(0,), (1,)])
        self.assertEqual(fillings((1, 2)), [(0, 0), (0, 1), (1, 0), (1, 1)])
        self.assertEqual(fillings((2, 1)), [(0,), (1,), (2,), (3,)])
        self.assertEqual(fillings((2, 2))[3:6], [(0, 3), (1, 0), (1, 1)])

    def test_the_list_is_the_askers_own(self):
        for size in SIZES:
            first = fillings(size)
            kept = list(first)
            first.reverse()
            first.pop()
            first[0] = None
            first.append("more")
            self.assertEqual(fillings(size), kept)
            self.assertIsNot(fillings(size), fillings(size))


class NumberOf(unittest.TestCase):
    def test_each_filling_of_each_size(self):
        for size in SIZES:
            for number, filling in enumerate(itertools.product(range(2 ** size[0]), repeat=size[1])):
                told = number_of(size, filling)
                self.assertEqual(told, number, (size, filling))
                self.assertIs(type(told), int)
                self.assertEqual(fillings(size)[told], filling)

    def test_written_out(self):
        self.assertEqual(number_of((1, 6), (1, 0, 0, 0, 0, 1)), 33)
        self.assertEqual(number_of((2, 3), (0, 1, 2)), 6)
        self.assertEqual(number_of((3, 2), (7, 7)), 63)
        self.assertEqual(number_of((6, 1), (0,)), 0)

    def test_asked_again_it_is_the_same(self):
        for size in SIZES:
            highest = fillings(size)[-1]
            self.assertEqual(number_of(size, highest), number_of(size, highest))
