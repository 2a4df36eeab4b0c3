import copy
import itertools
import unittest

from leastrow.steps import boxes_read, is_step, step_on, written_box
from tests.helper import LONE_WORDS, PAIR_WORDS, SIZES, STEP_WORDS, all_steps, no_tuples, no_whole_numbers


def bits_of(size, word):
    return [word // 2 ** place % 2 for place in range(size[0])]


def word_of(bits):
    return sum(bit * 2 ** place for place, bit in enumerate(bits))


def by_bits(size, one, other, rule):
    return word_of([rule(a + b) for a, b in zip(bits_of(size, one), bits_of(size, other))])


def counted(size, start, many, way):
    """One by one, so that no rest is taken here as the program takes it."""
    highest = 2 ** size[0] - 1
    for _ in range(many):
        start += way
        if start > highest:
            start = 0
        if start < 0:
            start = highest
    return start


def word_wanted(size, step, filling):
    name, i = step[0], step[1]
    if name == "put":
        return step[2]
    one = filling[i]
    if name == "not":
        return word_of([1 - bit for bit in bits_of(size, one)])
    if name == "up":
        return word_of([0] + bits_of(size, one)[:-1])
    if name == "down":
        return word_of(bits_of(size, one)[1:])
    other = filling[step[2]]
    return {
        "and": lambda: by_bits(size, one, other, lambda ones: int(ones == 2)),
        "or": lambda: by_bits(size, one, other, lambda ones: int(ones >= 1)),
        "xor": lambda: by_bits(size, one, other, lambda ones: int(ones == 1)),
        "add": lambda: counted(size, one, other, 1),
        "take": lambda: counted(size, one, other, -1),
        "copy": lambda: other,
    }[name]()


class IsStep(unittest.TestCase):
    def yes(self, size, thing):
        self.assertIs(is_step(size, thing), True, (size, thing))

    def no(self, size, thing):
        self.assertIs(is_step(size, thing), False, (size, thing))

    def test_every_step_of_every_size(self):
        for size in SIZES:
            for step in all_steps(size):
                self.yes(size, step)

    def test_both_boxes_the_same_and_the_highest_ones(self):
        for size in SIZES:
            highest = size[1] - 1
            for word in PAIR_WORDS:
                self.yes(size, (word, highest, highest))
                self.yes(size, (word, 0, highest))
                self.yes(size, (word, highest, 0))
            for word in LONE_WORDS:
                self.yes(size, (word, highest))
            self.yes(size, ("put", highest, 2 ** size[0] - 1))

    def test_numbers_beyond(self):
        for size in SIZES:
            for box in [size[1], size[1] + 1, -1, -size[1], 10 ** 100, -10 ** 100]:
                for word in PAIR_WORDS:
                    self.no(size, (word, box, 0))
                    self.no(size, (word, 0, box))
                    self.no(size, (word, box, box))
                for word in LONE_WORDS:
                    self.no(size, (word, box))
                self.no(size, ("put", box, 0))
            for number in [2 ** size[0], 2 ** size[0] + 1, -1, -2 ** size[0], 10 ** 100, -10 ** 100]:
                self.no(size, ("put", 0, number))

    def test_every_pair_of_numbers_near_the_bounds(self):
        for size in SIZES:
            steps = set(all_steps(size))
            numbers = range(-2, 67)
            for word in STEP_WORDS:
                for i in numbers:
                    self.assertIs(is_step(size, (word, i)), (word, i) in steps, (size, word, i))
                for pair in itertools.product(range(-2, 8), numbers):
                    thing = (word,) + pair
                    self.assertIs(is_step(size, thing), thing in steps, (size, thing))

    def test_a_word_is_no_box_and_a_box_no_word(self):
        self.yes((3, 2), ("put", 1, 7))
        self.no((3, 2), ("put", 7, 1))
        self.no((3, 2), ("copy", 1, 7))
        self.yes((1, 6), ("copy", 1, 5))
        self.no((1, 6), ("put", 1, 5))

    def test_too_few_and_too_many_parts(self):
        self.no((2, 2), ())
        for word in STEP_WORDS:
            self.no((2, 2), (word,))
            self.no((2, 2), (word, 0, 0, 0))
            self.no((2, 2), (word, 0, 0, None))
            self.no((2, 2), (word, 0, 0, 0, 0))
        for word in PAIR_WORDS + ["put"]:
            self.no((2, 2), (word, 0))
        for word in LONE_WORDS:
            self.no((2, 2), (word, 0, 0))
            self.no((2, 2), (word, 0, 1))
            self.no((2, 2), (word, 0, None))

    def test_other_words(self):
        for word in ["", "nand", "sub", "And", "AND", " and", "and ", "an", "notnot", "puts", "0"]:
            self.no((2, 2), (word, 0))
            self.no((2, 2), (word, 0, 0))
            self.no((2, 2), (word, 0, 1))

    def test_other_kinds_in_the_place_of_the_word(self):
        for thing in no_whole_numbers() + [0, 1, 10 ** 100, ["and"], ("and",), ("not",), {"and": 1}]:
            if isinstance(thing, str):
                continue
            self.no((2, 2), (thing,))
            self.no((2, 2), (thing, 0))
            self.no((2, 2), (thing, 0, 1))

    def test_other_kinds_in_the_place_of_a_number(self):
        for thing in no_whole_numbers():
            for word in PAIR_WORDS + ["put"]:
                self.no((2, 2), (word, thing, 0))
                self.no((2, 2), (word, 0, thing))
                self.no((2, 2), (word, thing, thing))
            for word in LONE_WORDS:
                self.no((2, 2), (word, thing))

    def test_a_list_in_the_place_of_the_tuple(self):
        for size in SIZES:
            for step in all_steps(size):
                self.no(size, list(step))

    def test_things_that_are_no_tuple(self):
        for size in SIZES:
            for thing in no_tuples() + ["and 0 0", {"and": (0, 0)}, {0: "not", 1: 0}]:
                self.no(size, thing)

    def test_a_step_within_a_tuple_is_none(self):
        self.no((2, 2), (("not", 0),))
        self.no((2, 2), (("not", 0), 1))

    def test_nothing_is_changed_and_all_is_told_again(self):
        for thing in [["not", 0], ("not", [0]), ("copy", 0, {0: [0]}), {"not": [0]}]:
            before = copy.deepcopy(thing)
            self.assertEqual([is_step((2, 2), thing), is_step((2, 2), thing)], [False, False])
            self.assertEqual(thing, before)


class StepOn(unittest.TestCase):
    def test_every_step_on_every_filling(self):
        for size in SIZES:
            for filling in itertools.product(range(2 ** size[0]), repeat=size[1]):
                for step in all_steps(size):
                    wanted = list(filling)
                    wanted[step[1]] = word_wanted(size, step, filling)
                    told = step_on(size, step, filling)
                    self.assertEqual(told, tuple(wanted), (size, step, filling))

    def test_written_out(self):
        for step, wanted in [
            (("and", 0, 1), (4, 5)), (("or", 0, 1), (7, 5)), (("xor", 0, 1), (3, 5)),
            (("add", 0, 1), (3, 5)), (("take", 0, 1), (1, 5)), (("take", 1, 0), (6, 7)),
            (("copy", 0, 1), (5, 5)), (("copy", 1, 0), (6, 6)), (("put", 0, 0), (0, 5)), (("put", 1, 7), (6, 7)),
            (("not", 0), (1, 5)), (("up", 0), (4, 5)), (("down", 0), (3, 5)), (("down", 1), (6, 2)),
        ]:
            self.assertEqual(step_on((3, 2), step, (6, 5)), wanted, step)

    def test_both_boxes_the_same(self):
        for step, wanted in [
            (("and", 1, 1), 5), (("or", 1, 1), 5), (("xor", 1, 1), 0),
            (("add", 1, 1), 2), (("take", 1, 1), 0), (("copy", 1, 1), 5),
        ]:
            self.assertEqual(step_on((3, 2), step, (6, 5)), (6, wanted), step)

    def test_beyond_the_bounds_of_a_word(self):
        self.assertEqual(step_on((2, 2), ("add", 0, 1), (3, 1)), (0, 1))
        self.assertEqual(step_on((2, 2), ("add", 0, 1), (3, 3)), (2, 3))
        self.assertEqual(step_on((2, 2), ("take", 0, 1), (0, 1)), (3, 1))
        self.assertEqual(step_on((2, 2), ("take", 0, 1), (0, 3)), (1, 3))
        self.assertEqual(step_on((1, 2), ("take", 0, 1), (0, 1)), (1, 1))
        self.assertEqual(step_on((6, 1), ("up", 0), (63,)), (62,))
        self.assertEqual(step_on((6, 1), ("add", 0, 0), (33,)), (2,))
        self.assertEqual(step_on((6, 1), ("not", 0), (0,)), (63,))
        self.assertEqual(step_on((1, 1), ("down", 0), (1,)), (0,))

    def test_kinds_and_what_is_handed_in_stays(self):
        for step in all_steps((2, 3)):
            filling = (3, 0, 2)
            told = step_on((2, 3), step, filling)
            self.assertIs(type(told), tuple)
            self.assertEqual([type(word) for word in told], [int] * 3)
            self.assertEqual(filling, (3, 0, 2))
            self.assertEqual(step_on((2, 3), step, filling), told)


class BoxesOfSteps(unittest.TestCase):
    def test_written_box(self):
        for size in SIZES:
            for step in all_steps(size):
                told = written_box(step)
                self.assertEqual(told, step[1])
                self.assertIs(type(told), int)

    def test_boxes_read_written_out(self):
        for word in ["and", "or", "xor", "add", "take"]:
            self.assertEqual(boxes_read((word, 0, 1)), [0, 1])
            self.assertEqual(boxes_read((word, 1, 0)), [0, 1])
            self.assertEqual(boxes_read((word, 5, 2)), [2, 5])
            self.assertEqual(boxes_read((word, 2, 2)), [2])
        self.assertEqual(boxes_read(("copy", 0, 1)), [1])
        self.assertEqual(boxes_read(("copy", 1, 0)), [0])
        self.assertEqual(boxes_read(("copy", 3, 3)), [3])
        for word in LONE_WORDS:
            self.assertEqual(boxes_read((word, 0)), [0])
            self.assertEqual(boxes_read((word, 4)), [4])
        for number in [0, 1, 2]:
            self.assertEqual(boxes_read(("put", 1, number)), [])

    def test_they_rise_each_once(self):
        for step in all_steps((1, 6)):
            told = boxes_read(step)
            self.assertIs(type(told), list)
            self.assertEqual(told, sorted(set(told)))

    def test_what_is_made_hangs_on_no_other_box(self):
        size = (2, 3)
        for step in all_steps(size):
            made = {}
            for filling in itertools.product(range(4), repeat=3):
                read = tuple(filling[box] for box in boxes_read(step))
                word = step_on(size, step, filling)[written_box(step)]
                self.assertEqual(made.setdefault(read, word), word, (step, filling))

    def test_the_list_is_the_askers_own(self):
        for step in all_steps((1, 6)):
            first = boxes_read(step)
            kept = list(first)
            first.append(9)
            first[0] = None
            self.assertEqual(boxes_read(step), kept)
            self.assertIsNot(boxes_read(step), boxes_read(step))
