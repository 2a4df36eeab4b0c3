import itertools
import random
import unittest

from leastrow.errors import NoWish
from leastrow.tables import parts_at
from leastrow.wishes import both_wishes, does_wish, is_loose, misses_at, wish_like
from tests.helper import SIZES, every_filling, looked_at, same_kinds, some_tables, some_wishes, told_of

ITSELF = ((0, 0), (0, 1), (1, 0), (1, 1))


def choices(size):
    """None, and every list of fillings that may stand in a wish."""
    every = every_filling(size)
    return [None] + [list(some) for many in range(1, len(every) + 1) for some in itertools.combinations(every, many)]


def first_missed(size, wish, table):
    missed = [
        filling for filling, choice, made in zip(every_filling(size), wish, table)
        if not (choice is None or choice.count(made) > 0)
    ]
    return missed[0] if missed else None


class DoesAndMisses(unittest.TestCase):
    def test_written_out(self):
        wish = [None, [(0, 0), (0, 1)], [(1, 1)], None]
        for table, missed in [
            (((1, 1), (0, 1), (1, 1), (0, 0)), None),
            (((0, 0), (0, 0), (1, 1), (1, 1)), None),
            (ITSELF, (1, 0)),
            (((0, 0), (1, 0), (1, 1), (0, 0)), (0, 1)),
            (((0, 0), (1, 1), (0, 0), (0, 0)), (0, 1)),
        ]:
            self.assertIs(does_wish((1, 2), wish, table), missed is None, table)
            self.assertTrue(same_kinds(misses_at((1, 2), wish, table), missed), table)

    def test_every_wish_and_table_of_the_smallest_size(self):
        every = every_filling((1, 1))
        for wish in itertools.product(choices((1, 1)), repeat=2):
            for table in itertools.product(every, repeat=2):
                missed = first_missed((1, 1), wish, table)
                self.assertEqual(misses_at((1, 1), list(wish), table), missed)
                self.assertIs(does_wish((1, 1), list(wish), table), missed is None)

    def test_every_size(self):
        for size in SIZES:
            for wish in some_wishes(size):
                for table in some_tables(size) + [tuple(choice[-1] if choice else (0,) * size[1] for choice in wish)]:
                    missed = first_missed(size, wish, table)
                    self.assertTrue(same_kinds(misses_at(size, wish, table), missed), (size, wish, table))
                    self.assertIs(does_wish(size, wish, table), missed is None)
                told_of(self, misses_at, size, wish, table)
                told_of(self, does_wish, size, wish, table)

    def test_none_and_all_fillings_are_done_by_every_table(self):
        for size in SIZES:
            for wish in some_wishes(size)[:2]:
                for table in some_tables(size):
                    self.assertIs(does_wish(size, wish, table), True)
                    self.assertIsNone(misses_at(size, wish, table))

    def test_one_filling_missed_at_each_place(self):
        for size in SIZES:
            every = every_filling(size)
            for number, filling in enumerate(every):
                wish = [[one] for one in every]
                wish[number] = [one for one in every if one != filling]
                self.assertIs(does_wish(size, wish, tuple(every)), False)
                self.assertEqual(misses_at(size, wish, tuple(every)), filling)
                wish[number] = None
                self.assertIs(does_wish(size, wish, tuple(every)), True)


class WishLike(unittest.TestCase):
    def test_written_out(self):
        table = ((0, 1), (1, 1), (0, 0), (0, 1))
        for looked, wish in [
            (None, [[(0, 1)], [(1, 1)], [(0, 0)], [(0, 1)]]),
            ([0, 1], [[(0, 1)], [(1, 1)], [(0, 0)], [(0, 1)]]),
            ([0], [[(0, 0), (0, 1)], [(1, 0), (1, 1)], [(0, 0), (0, 1)], [(0, 0), (0, 1)]]),
            ([1], [[(0, 1), (1, 1)], [(0, 1), (1, 1)], [(0, 0), (1, 0)], [(0, 1), (1, 1)]]),
            ([], [None, None, None, None]),
        ]:
            self.assertTrue(same_kinds(wish_like((1, 2), table, looked), wish), looked)
        self.assertEqual(wish_like((1, 2), table), [[(0, 1)], [(1, 1)], [(0, 0)], [(0, 1)]])

    def test_every_list_of_boxes_of_every_size(self):
        for size in SIZES:
            every = every_filling(size)
            for looked in looked_at(size):
                boxes = range(size[1]) if looked is None else looked
                for table in some_tables(size)[::2]:
                    wish = wish_like(size, table, looked)
                    if looked == []:
                        self.assertEqual(wish, [None] * len(every))
                        continue
                    wanted = [[one for one in every if all(one[box] == made[box] for box in boxes)] for made in table]
                    self.assertTrue(same_kinds(wish, wanted), (size, looked))

    def test_left_out_they_are_all_boxes(self):
        for size in SIZES:
            for table in some_tables(size):
                wanted = [[made] for made in table]
                self.assertEqual(wish_like(size, table), wanted)
                self.assertEqual(wish_like(size, table, looked=None), wanted)
                self.assertEqual(wish_like(size, table, list(range(size[1]))), wanted)

    def test_done_just_by_the_tables_that_are_alike(self):
        for size in SIZES:
            for looked in looked_at(size):
                for table in some_tables(size)[:3]:
                    wish = wish_like(size, table, looked)
                    for other in some_tables(size):
                        self.assertEqual(misses_at(size, wish, other), parts_at(size, table, other, looked))

    def test_lists_are_the_askers_own(self):
        for size in SIZES:
            for looked in [None, [], [0], list(range(size[1]))]:
                for table in some_tables(size)[1:4]:
                    told_of(self, wish_like, size, table, looked)


class BothWishes(unittest.TestCase):
    def wanted(self, one, other):
        """None where it is to be refused."""
        both = []
        for mine, theirs in zip(one, other):
            if mine is None or theirs is None:
                both.append(theirs if mine is None else mine)
                continue
            both.append([filling for filling in mine if filling in theirs])
            if both[-1] == []:
                return None
        return both

    def refused(self, size, one, other):
        with self.assertRaises(NoWish) as taken:
            both_wishes(size, one, other)
        self.assertIs(type(taken.exception), NoWish)

    def test_written_out(self):
        one = [None, None, [(0, 0), (1, 1)], [(0, 1), (1, 0), (1, 1)]]
        other = [None, [(1, 0)], None, [(0, 0), (0, 1), (1, 1)]]
        wanted = [None, [(1, 0)], [(0, 0), (1, 1)], [(0, 1), (1, 1)]]
        self.assertTrue(same_kinds(both_wishes((1, 2), one, other), wanted))
        self.assertTrue(same_kinds(both_wishes((1, 2), other, one), wanted))

    def test_none_in_both_is_refused(self):
        self.refused((1, 2), [[(0, 0)], None, None, None], [[(1, 1)], None, None, None])
        self.refused((1, 2), [None, None, None, [(0, 0), (0, 1)]], [None, None, None, [(1, 0), (1, 1)]])
        for size in SIZES:
            every = every_filling(size)
            for place in range(len(every)):
                one = [list(every) for _ in every]
                other = [list(every) for _ in every]
                one[place] = every[:1]
                other[place] = every[1:]
                self.refused(size, one, other)
                self.refused(size, other, one)
                other[place] = list(every)
                self.assertEqual(both_wishes(size, one, other), one)

    def test_every_pair_of_wishes_of_the_smallest_size(self):
        wishes = [list(wish) for wish in itertools.product(choices((1, 1)), repeat=2)]
        for one in wishes:
            for other in wishes:
                wanted = self.wanted(one, other)
                if wanted is None:
                    self.refused((1, 1), one, other)
                else:
                    self.assertTrue(same_kinds(told_of(self, both_wishes, (1, 1), one, other), wanted))

    def test_every_pair_of_lists_at_one_filling(self):
        for size in [(1, 2), (2, 1)]:
            for mine in choices(size):
                for theirs in choices(size):
                    one = [None, mine, None, None]
                    other = [None, theirs, None, None]
                    wanted = self.wanted(one, other)
                    if wanted is None:
                        self.refused(size, one, other)
                    else:
                        self.assertEqual(both_wishes(size, one, other), wanted)

    def test_every_size_with_lists_of_the_askers_own(self):
        refused = 0
        for size in SIZES:
            for one in some_wishes(size)[::2]:
                for other in some_wishes(size):
                    wanted = self.wanted(one, other)
                    if wanted is None:
                        refused += 1
                        self.refused(size, one, other)
                        continue
                    self.assertTrue(same_kinds(told_of(self, both_wishes, size, one, other), wanted))
                    for table in some_tables(size)[::2]:
                        each = does_wish(size, one, table) and does_wish(size, other, table)
                        self.assertIs(does_wish(size, wanted, table), each)
        self.assertGreater(refused, 20)

    def test_with_itself(self):
        for size in SIZES:
            for wish in some_wishes(size):
                self.assertEqual(told_of(self, both_wishes, size, wish, wish), wish)


class IsLoose(unittest.TestCase):
    def by_tables(self, size, one, other):
        every = every_filling(size)
        tables = itertools.product(every, repeat=len(every))
        return all(first_missed(size, one, table) is None for table in tables if first_missed(size, other, table) is None)

    def test_every_pair_of_wishes_of_the_smallest_size(self):
        wishes = [list(wish) for wish in itertools.product(choices((1, 1)), repeat=2)]
        for one in wishes:
            for other in wishes:
                told = told_of(self, is_loose, (1, 1), one, other)
                self.assertIs(told, self.by_tables((1, 1), one, other), (one, other))

    def test_by_all_tables_of_sizes_of_two_bits(self):
        for size in [(1, 2), (2, 1)]:
            chance = random.Random(7)
            some = choices(size)
            met = []
            for _ in range(150):
                other = [chance.choice(some) for _ in range(4)]
                one = [choice if choice is None else sorted(set(choice + chance.choice(some[1:9]))) for choice in other]
                if chance.randrange(2):
                    one[chance.randrange(4)] = chance.choice(some)
                met.append(self.by_tables(size, one, other))
                self.assertIs(is_loose(size, one, other), met[-1], (one, other))
                self.assertIs(is_loose(size, other, one), self.by_tables(size, other, one), (one, other))
            self.assertTrue(20 < met.count(True) < 140, met)

    def test_every_pair_of_lists_at_one_filling(self):
        for size in [(1, 2), (2, 1)]:
            every = every_filling(size)
            for mine in choices(size):
                for theirs in choices(size):
                    wanted = set(theirs or every) <= set(mine or every)
                    for place in range(4):
                        one = [None] * place + [mine] + [None] * (3 - place)
                        other = [None] * place + [theirs] + [None] * (3 - place)
                        self.assertIs(is_loose(size, one, other), wanted, (mine, theirs))

    def test_all_fillings_are_as_loose_as_none(self):
        for size in SIZES:
            free, whole, strict = some_wishes(size)[:3]
            self.assertIs(is_loose(size, free, whole), True)
            self.assertIs(is_loose(size, whole, free), True)
            self.assertIs(is_loose(size, whole, strict), True)
            self.assertIs(is_loose(size, strict, whole), False)
            self.assertIs(is_loose(size, strict, free), False)
            for place in range(len(whole)):
                less = [list(choice) for choice in whole]
                less[place].pop()
                self.assertIs(is_loose(size, less, free), False)
                self.assertIs(is_loose(size, less, whole), False)
                self.assertIs(is_loose(size, free, less), True)

    def test_every_size(self):
        for size in SIZES:
            every = every_filling(size)
            wishes = some_wishes(size) + [wish_like(size, some_tables(size)[1], looked) for looked in looked_at(size)[:6]]
            for one in wishes:
                told_of(self, is_loose, size, one, wishes[5])
                for other in wishes:
                    pairs = zip(one, other)
                    wanted = all(set(theirs or every) <= set(mine or every) for mine, theirs in pairs)
                    self.assertIs(is_loose(size, one, other), wanted, (size, one, other))
