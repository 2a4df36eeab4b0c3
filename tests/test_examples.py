import itertools
import random
import unittest

from leastrow.errors import NoWish
from leastrow.examples import wish_of
from tests.helper import SIZES, every_filling, same_kinds, told_of


def wanted_wish(size, examples):
    """By going through all fillings for each one; None where it is to be refused."""
    every = every_filling(size)
    wish = []
    for filling in every:
        wants = [(box, word) for one, wanted in examples if one == filling for box, word in enumerate(wanted)]
        wants = {want for want in wants if want[1] is not None}
        if len({box for box, _ in wants}) < len(wants):
            return None
        fitting = [made for made in every if all(made[box] == word for box, word in wants)]
        wish.append(fitting if wants else None)
    return wish


class WishOf(unittest.TestCase):
    def refused(self, size, examples):
        with self.assertRaises(NoWish) as taken:
            wish_of(size, examples)
        self.assertIs(type(taken.exception), NoWish)

    def as_wanted(self, size, examples):
        wanted = wanted_wish(size, examples)
        if wanted is None:
            self.refused(size, examples)
            return False
        self.assertTrue(same_kinds(told_of(self, wish_of, size, examples), wanted), (size, examples))
        return True

    def test_written_out(self):
        for examples, wish in [
            ([], [None, None, None, None]),
            ([((0, 1), (1, None))], [None, [(1, 0), (1, 1)], None, None]),
            ([((0, 1), (None, 0))], [None, [(0, 0), (1, 0)], None, None]),
            ([((1, 1), (0, 0))], [None, None, None, [(0, 0)]]),
            ([((1, 1), (None, None))], [None, None, None, None]),
            ([((1, 0), (1, None)), ((0, 0), (0, 1))], [[(0, 1)], None, [(1, 0), (1, 1)], None]),
            ([((1, 0), (1, None)), ((1, 0), (None, 0))], [None, None, [(1, 0)], None]),
            ([((1, 0), (None, None)), ((1, 0), (None, 0))], [None, None, [(0, 0), (1, 0)], None]),
            ([((1, 0), (1, 0)), ((1, 0), (1, 0)), ((1, 0), (1, None))], [None, None, [(1, 0)], None]),
        ]:
            self.assertTrue(same_kinds(wish_of((1, 2), examples), wish), examples)
        self.assertEqual(wish_of((2, 1), [((3,), (0,))]), [None, None, None, [(0,)]])

    def test_no_examples(self):
        for size in SIZES:
            wish = told_of(self, wish_of, size, [])
            self.assertTrue(same_kinds(wish, [None] * 2 ** (size[0] * size[1])))

    def test_unlike_words_of_one_box_are_refused(self):
        for examples in [
            [((1, 0), (1, None)), ((1, 0), (0, None))],
            [((1, 0), (0, None)), ((1, 0), (1, None))],
            [((1, 0), (1, 1)), ((1, 0), (1, 0))],
            [((1, 0), (1, 0)), ((0, 0), (0, 0)), ((1, 0), (None, None)), ((1, 0), (None, 1))],
            [((1, 0), (None, None)), ((1, 0), (None, 1)), ((1, 0), (1, None)), ((1, 0), (0, None))],
        ]:
            self.refused((1, 2), examples)
            self.refused((1, 2), examples[::-1])
        for size in SIZES:
            for filling in every_filling(size):
                for box in range(size[1]):
                    one, other = [None] * size[1], [None] * size[1]
                    one[box], other[box] = 0, 2 ** size[0] - 1
                    self.refused(size, [(filling, tuple(one)), (filling, tuple(other))])
                    self.refused(size, [(filling, tuple(other)), (filling, tuple(one))])

    def test_unlike_words_of_other_boxes_or_fillings_are_not(self):
        self.assertTrue(self.as_wanted((1, 2), [((1, 0), (1, None)), ((1, 0), (None, 0))]))
        self.assertTrue(self.as_wanted((1, 2), [((1, 0), (1, None)), ((0, 0), (0, None)), ((1, 1), (0, None))]))

    def test_each_pair_of_examples_of_small_sizes(self):
        for size in [(1, 1), (2, 1), (1, 2)]:
            words = [None] + list(range(2 ** size[0]))
            examples = list(itertools.product(every_filling(size), itertools.product(words, repeat=size[1])))
            for one in examples:
                self.as_wanted(size, [one])
                for other in examples:
                    self.as_wanted(size, [one, other])

    def test_an_example_of_each_filling(self):
        for size in SIZES:
            every = every_filling(size)
            self.assertEqual(wish_of(size, list(zip(every, every[::-1]))), [[made] for made in every[::-1]])
            nothing = (None,) * size[1]
            self.assertEqual(wish_of(size, [(filling, nothing) for filling in every]), [None] * len(every))

    def test_none_to_sixty_four_examples_of_every_size(self):
        met = []
        for size in SIZES:
            chance = random.Random(size[0] * 10 + size[1])
            every = every_filling(size)
            for many in [0, 1, 2, 3, 5, 8, 13, 64]:
                # Words of one table never want unlike words; with one word of any other kind they may.
                examples = []
                for _ in range(many):
                    place = chance.randrange(len(every))
                    made = every[place * 5 % len(every)]
                    wanted = tuple(word if chance.randrange(2) else None for word in made)
                    examples.append((every[place], wanted))
                self.assertTrue(self.as_wanted(size, examples))
                self.assertTrue(self.as_wanted(size, examples[::-1]))
                if many > 0:
                    filling = examples[-1][0]
                    met.append(self.as_wanted(size, examples[:-1] + [(filling, chance.choice(every))]))
        self.assertIn(True, met)
        self.assertIn(False, met)
