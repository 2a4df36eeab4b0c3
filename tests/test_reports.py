import random
import re
import unittest

from leastrow.cheaper import made_cheaper
from leastrow.errors import NoText, NoWish, TooGreat
from leastrow.examples import wish_of
from leastrow.least import least_row
from leastrow.reports import report
from leastrow.rows import price_of
from leastrow.stocktexts import show_stock
from leastrow.tables import table_of
from tests.helper import FIVE_HUNDRED, LINES_OF, SIZES, all_steps, every_filling, looked_at, size_lines, small_stock
from tests.helper import some_stocks, some_tables, told_of, with_one_sign_other

HEAD = "bits 2 boxes 2\nadd 0 1 price 2\nnot 0 price 1\nput 1 3 price 4"

LEAST = re.compile("least bound (0|[1-9][0-9]*)((?: [0-9,]+=[0-9,*]+)*)")
CHEAP = re.compile("cheap width ([1-4]) look((?: [0-9]+)*) row((?: [0-9]+)*)")
WORD = re.compile("0|[1-9][0-9]*")


def is_number(word, below):
    return WORD.fullmatch(word) is not None and len(word) < 9 and int(word) < below


def is_least_line(size, line):
    found = LEAST.fullmatch(line)
    if not found or not is_number(found[1], 41):
        return False
    examples = found[2].split()
    for example in examples:
        filling, wanted = [side.split(",") for side in example.split("=")]
        if len(filling) != size[1] or len(wanted) != size[1]:
            return False
        if not all(is_number(word, 2 ** size[0]) for word in filling + [word for word in wanted if word != "*"]):
            return False
    return len(examples) <= 64


def is_cheap_line(size, stock, line):
    found = CHEAP.fullmatch(line)
    if not found:
        return False
    boxes, row = found[2].split(), found[3].split()
    if not all(is_number(box, size[1]) for box in boxes) or not all(is_number(number, len(stock)) for number in row):
        return False
    return [int(box) for box in boxes] == sorted({int(box) for box in boxes}) and len(row) <= 12


def first_wrong_line(text):
    """By looking up lines of steps, and by patterns for the asks; None where each line is as told."""
    lines = text.split("\n")
    size = size_lines().get(lines[0])
    if size is None:
        return 0
    told, asked = [], False
    for number, line in enumerate(lines[1:], 1):
        step = LINES_OF[size].get(line)
        if told and (is_least_line(size, line) or is_cheap_line(size, told, line)):
            asked = True
        elif asked or step is None or step in told or len(told) == 8:
            return number
        else:
            told.append(step)
    return None if asked else len(lines)


def show_example(filling, wanted):
    words = ["*" if word is None else str(word) for word in wanted]
    return ",".join([str(word) for word in filling]) + "=" + ",".join(words)


def least_line(bound, examples):
    return " ".join(["least bound " + str(bound)] + [show_example(*example) for example in examples])


def cheap_line(width, looked, row):
    return " ".join(["cheap width", str(width), "look"] + [str(b) for b in looked] + ["row"] + [str(n) for n in row])


def row_line(stock, row):
    return "row " + "".join([str(number) + " " for number in row]) + "price " + str(price_of(stock, row))


def some_examples(chance, size, many, table):
    """Examples of what a table tells, in some boxes, of fillings that may stand there several times."""
    every = every_filling(size)
    examples = []
    for _ in range(many):
        place = chance.randrange(len(every))
        examples.append((every[place], tuple(word if chance.randrange(2) else None for word in table[place])))
    return examples


def some_row(chance, stock, most):
    return tuple(chance.randrange(len(stock)) for _ in range(chance.randint(0, most)))


class Answers(unittest.TestCase):
    def test_written_out(self):
        for ask, answer in [
            ("least bound 0", "row price 0"), ("least bound 40", "row price 0"),
            ("least bound 9 0,0=3,0", "row 1 price 1"), ("least bound 9 0,0=*,3", "row 2 price 4"),
            ("least bound 3 0,0=*,3", "none"), ("least bound 4 0,0=*,3", "row 2 price 4"),
            ("least bound 9 0,1=1,*", "row 0 price 2"), ("least bound 1 0,1=1,*", "none"),
            ("least bound 9 0,1=*,*", "row price 0"), ("least bound 9 0,1=1,* 0,1=*,1", "row 0 price 2"),
            ("least bound 9 0,1=1,* 0,0=0,0", "row 0 price 2"), ("least bound 9 0,0=2,3", "row 1 2 0 price 7"),
            ("least bound 9 0,1=3,1 1,1=2,1", "row 1 price 1"), ("cheap width 2 look row", "row price 0"),
            ("cheap width 2 look 0 1 row", "row price 0"), ("cheap width 2 look row 0 1 2", "row price 0"),
            ("cheap width 1 look 0 1 row 1 1", "row 1 1 price 2"), ("cheap width 2 look 0 1 row 1 1", "row price 0"),
            ("cheap width 2 look 1 row 1 1 2 0", "row 2 price 4"),
            ("cheap width 1 look 0 1 row 2 2 2", "row 2 price 4"),
            ("cheap width 4 look 0 row 1 0 1", "row 1 0 1 price 4"),
            ("cheap width 2 look 0 row 0 0 0 0", "row 0 0 0 0 price 8"),
            ("cheap width 4 look 0 row 0 0 0 0", "row price 0"),
        ]:
            self.assertEqual(report(HEAD + "\n" + ask), answer, ask)

    def test_a_line_for_each_ask(self):
        asks = ["least bound 0", "cheap width 2 look 0 1 row 1", "least bound 3 0,0=*,3", "least bound 0", "least bound 9 0,0=3,0"]
        answers = ["row price 0", "row 1 price 1", "none", "row price 0", "row 1 price 1"]
        for many in range(1, 6):
            self.assertEqual(report("\n".join([HEAD] + asks[:many])), "\n".join(answers[:many]))
            self.assertEqual(report("\n".join([HEAD] + asks[::-1][:many])), "\n".join(answers[::-1][:many]))

    def test_least_rows_of_every_size(self):
        chance = random.Random(32)
        met = []
        for size in SIZES:
            for stock in some_stocks(size)[3:14:2]:
                asks, answers = [], []
                for bound in [0, 2, 5]:
                    for many in [0, 1, 2, 5]:
                        table = table_of(size, stock, some_row(chance, stock, 3))
                        examples = some_examples(chance, size, many, table)
                        told = least_row(size, stock, bound, wish_of(size, examples))
                        asks.append(least_line(bound, examples))
                        answers.append("none" if told[0] == "none" else row_line(stock, told[1]))
                text = "\n".join([show_stock(size, stock)] + asks)
                self.assertEqual(told_of(self, report, text), "\n".join(answers))
                met += answers
        self.assertGreater(met.count("none"), 50)
        self.assertGreater(len(set(met)), 15)

    def test_rows_made_cheaper_of_every_size(self):
        chance = random.Random(33)
        met = set()
        for size in SIZES:
            last = size[1] - 1
            stock = small_stock(size)
            asks, answers = [], []
            for steps in [0, 1, 3, 12]:
                for looked in [[], [0], [last], list(range(size[1])), chance.choice(looked_at(size)[1:])]:
                    row = tuple(chance.randrange(5) for _ in range(steps))
                    width = chance.randint(1, 4)
                    asks.append(cheap_line(width, looked, row))
                    answers.append(row_line(stock, made_cheaper(size, stock, row, looked, width)[0]))
            text = "\n".join([show_stock(size, stock)] + asks)
            self.assertEqual(told_of(self, report, text), "\n".join(answers))
            met |= set(answers)
        self.assertGreater(len(met), 30)

    def test_no_box_looked_at_is_not_all_of_them(self):
        text = "bits 1 boxes 1\nnot 0 price 7\ncheap width 1 look row 0\ncheap width 1 look 0 row 0"
        self.assertEqual(report(text), "row price 0\nrow 0 price 7")

    def test_bounds_from_nought_to_forty(self):
        for size in SIZES:
            text = f"bits {size[0]} boxes {size[1]}\nnot 0 price 9\n"
            ask = show_example((0,) * size[1], (2 ** size[0] - 1,) + (None,) * (size[1] - 1))
            asks = [f"least bound {bound} {ask}" for bound in range(41)]
            self.assertEqual(report(text + "\n".join(asks)), "\n".join(["none"] * 9 + ["row 0 price 9"] * 32))
            self.assertEqual(report(text + "least bound 0\nleast bound 40"), "row price 0\nrow price 0")

    def test_none_to_sixty_four_examples(self):
        for size in SIZES:
            chance = random.Random(size[0] * 10 + size[1])
            stock = [(("put", 0, 1), 1), (("up", 0), 1), (("not", size[1] - 1), 2)]
            for many in [0, 1, 2, 63, 64]:
                examples = some_examples(chance, size, many, some_tables(size)[4])
                told = least_row(size, stock, 6, wish_of(size, examples))
                answer = "none" if told[0] == "none" else row_line(stock, told[1])
                self.assertEqual(report(show_stock(size, stock) + "\n" + least_line(6, examples)), answer)

    def test_a_longer_row_than_twelve_steps_may_be_told(self):
        stock = [(("put", 0, 32), 9), (("up", 0), 1), (("put", 0, 1), 1), (("not", 0), 1)]
        text = show_stock((6, 1), stock) + "\n" + cheap_line(1, [0], (0,) + (3,) * 11)
        self.assertEqual(report(text), "row 2 1 1 1 1 1 3 3 3 3 3 3 3 3 3 3 3 price 17")

    def test_many_asks(self):
        asks = ["least bound 40 0,0=*,3"] * 200
        self.assertEqual(report("\n".join([HEAD] + asks)), "\n".join(["row 2 price 4"] * 200))


class NoTexts(unittest.TestCase):
    def wrong_at(self, text, line):
        with self.assertRaises(NoText) as taken:
            report(text)
        self.assertIs(type(taken.exception), NoText)
        self.assertIs(type(taken.exception.line), int)
        self.assertEqual(taken.exception.line, line, text[-200:])

    def looked_up(self, text):
        """Whether the text is taken, as it should be."""
        line = first_wrong_line(text)
        if line is not None:
            self.wrong_at(text, line)
            return False
        try:
            self.assertIs(type(report(text)), str)
        except (NoWish, TooGreat):
            pass
        return True

    def each_way(self, ask):
        """A spoiled ask alone, ahead of another one, behind one, and ahead of another spoiled one."""
        good = "least bound 3 0,0=*,1"
        self.wrong_at(HEAD + "\n" + ask, 4)
        self.wrong_at(HEAD + "\n" + ask + "\n" + good, 4)
        self.wrong_at(HEAD + "\n" + good + "\n" + ask, 5)
        self.wrong_at(HEAD + "\n" + good + "\n" + good + "\n" + ask + "\nnothing", 6)

    def test_no_ask(self):
        self.wrong_at(HEAD, 4)
        self.wrong_at("bits 2 boxes 2\nnot 0 price 1", 2)
        for size in SIZES:
            for stock in some_stocks(size):
                self.wrong_at(show_stock(size, stock), len(stock) + 1)

    def test_no_step_or_no_size(self):
        self.wrong_at("", 0)
        self.wrong_at("\n", 0)
        self.wrong_at("least bound 3", 0)
        self.wrong_at("least bound 3\nleast bound 3", 0)
        self.wrong_at("cheap width 2 look row\n" + HEAD, 0)
        self.wrong_at("not 0 price 1\nleast bound 3", 0)
        self.wrong_at("bits 7 boxes 1\nnot 0 price 1\nleast bound 3", 0)
        self.wrong_at("bits 2 boxes 2", 1)
        self.wrong_at("bits 2 boxes 2\n", 1)
        self.wrong_at("bits 2 boxes 2\nleast bound 3", 1)
        self.wrong_at("bits 2 boxes 2\nleast bound 3\nnot 0 price 1", 1)
        self.wrong_at("bits 2 boxes 2\ncheap width 2 look row", 1)
        self.wrong_at("bits 2 boxes 2\nbits 2 boxes 2\nleast bound 3", 1)

    def test_lines_of_steps_that_are_not_as_told(self):
        good = "\nleast bound 3"
        for line in ["not 2 price 1", "not 0 price 2", "add 0 1 price 2", "not 1 price 10", "not 1", "nand 0 1 price 1", "", " "]:
            self.wrong_at(HEAD + "\n" + line + good, 4)
            self.wrong_at(HEAD + "\n" + line + good + "\nnothing", 4)
        for size in SIZES:
            lines = [line for line in LINES_OF[size] if line.endswith("1")]
            text = "\n".join([f"bits {size[0]} boxes {size[1]}"] + lines[:8])
            self.assertEqual(report(text + good), "row price 0")
            self.wrong_at(text + "\n" + lines[8] + good, 9)
            self.wrong_at(text + "\n" + lines[0] + good, 9)

    def test_a_steps_line_behind_an_ask(self):
        for ask in ["least bound 3", "cheap width 2 look row"]:
            for line in ["not 1 price 1", "not 0 price 1", "up 0 price 9", "bits 2 boxes 2"]:
                self.wrong_at(HEAD + "\n" + ask + "\n" + line, 5)
                self.wrong_at(HEAD + "\n" + ask + "\n" + line + "\n" + ask, 5)
                self.wrong_at(HEAD + "\n" + ask + "\n" + ask + "\n" + line, 6)

    def test_an_empty_line(self):
        good = "least bound 3"
        self.wrong_at(HEAD + "\n" + good + "\n", 5)
        self.wrong_at(HEAD + "\n" + good + "\n\n", 5)
        self.wrong_at(HEAD + "\n" + good + "\n\n" + good, 5)
        self.wrong_at(HEAD + "\n\n" + good, 4)
        self.wrong_at("\n" + HEAD + "\n" + good, 0)
        self.wrong_at(HEAD + "\n", 4)

    def test_asks_that_are_none(self):
        for ask in [
            "least", "cheap", "least bound", "cheap width", "Least bound 3", "most bound 3", "least bounds 3",
            "bound 3", "leastbound 3", "least 3", "least width 3", "cheap bound 3", "least bound 3 price 2",
            "row price 0", "none", "least  bound 3", " least bound 3", "least bound 3 ", "least bound  3",
            "cheap width 2", "cheap width 2 look", "cheap width 2 look 0", "cheap width 2 row", "cheap look row",
            "cheap width look row", "cheap 2 look row", "cheap width 2 look  row", "cheap width 2 look row ",
            "cheap width 2 row look", "cheap width 2 row 0 look 0", "cheap look 0 width 2 row 0",
            "cheap width 2 look row row", "cheap width 2 look 0 row 0 row 1", "cheap width 2 look look row",
            "cheap width 2  look row", " cheap width 2 look row", "cheap width 2 looks row",
            "cheap width 2 look rows", "cheap width 2 look 0 row  1", "cheap width 2 look 0  1 row",
            "cheap width row look 0 row 0", "least bound least", "report", "~", "cheap width 2 look * row",
            "cheap width 2 look row *",
        ]:
            self.each_way(ask)

    def test_bounds_that_are_none(self):
        for bound in ["41", "42", "99", "100", "400", "-1", "+3", "03", "00", "040", "4_0", "3.0", "x", "*", "0x3", "3,", "9" * 4000]:
            self.each_way("least bound " + bound)
            self.each_way("least bound " + bound + " 0,0=*,1")

    def test_widths_that_are_none(self):
        for width in ["0", "5", "6", "9", "10", "11", "12", "-1", "+1", "01", "02", "2.", "x", "*", "", "9" * 4000]:
            self.each_way("cheap width " + width + " look 0 row 1")
        for width in ["1", "2", "3", "4"]:
            self.assertEqual(report(HEAD + "\ncheap width " + width + " look 0 row 1"), "row 1 price 1")

    def test_examples_that_are_none(self):
        for example in [
            "0,0", "0,0=", "=0,0", "=", "0,0=0", "0=0,0", "0,0=0,0,0", "0,0,0=0,0", "0,0==0,0", "0,0=0,0=0,0",
            "0,0=0,", "0,0=,0", ",0=0,0", "0,=0,0", "0,0=,", ",=,", "0,4=0,0", "4,0=0,0", "0,0=4,0", "0,0=0,4",
            "0,0=0,-1", "-1,0=0,0", "0,0=0,+1", "0,0=00,0", "01,0=0,0", "0,0=0,03", "*,0=0,0", "0,*=0,0", "*,*=*,*",
            "0,0=**,0", "0,0=*0,0", "0,0=0*,0", "0,0=1*,0", "0,0=None,0", "0,0=x,0", "0;0=0,0", "0,0:0,0",
            "(0,0)=(0,0)", "0,0=0.,0", "0,10=0,0", "0,100=0,0", "0,0=99,0", "0 0=0 0", "0,0 =0,0", "0,0= 0,0",
            "0, 0=0,0", "*", "0,0=" + "1" * 4000 + ",0", "0," + "0" * 4000 + "=0,0",
        ]:
            self.each_way("least bound 3 " + example)
            self.each_way("least bound 3 0,0=*,1 " + example)
            self.each_way("least bound 3 " + example + " 0,0=*,1")

    def test_fillings_of_every_size(self):
        for size in SIZES:
            head = f"bits {size[0]} boxes {size[1]}\nnot 0 price 1\nleast bound 0 "
            nought, high = ["0"] * size[1], ["*"] * size[1]
            for box in range(size[1]):
                for word in ["0", str(2 ** size[0] - 1), str(2 ** size[0]), str(2 ** size[0] + 1), "*", "-1", ""]:
                    filling = ",".join(nought[:box] + [word] + nought[box + 1:])
                    wanted = ",".join(high[:box] + [word] + high[box + 1:])
                    self.looked_up(head + filling + "=" + ",".join(high))
                    self.looked_up(head + ",".join(nought) + "=" + wanted)
            for many in range(9):
                self.looked_up(head + ",".join(["0"] * many) + "=" + ",".join(high))
                self.looked_up(head + ",".join(nought) + "=" + ",".join(["*"] * many))

    def test_sixty_four_examples_and_one_more(self):
        example = " 0,0=*,1"
        self.assertEqual(report(HEAD + "\nleast bound 1" + example * 64), "none")
        for many in [65, 66, 100, 300]:
            self.each_way("least bound 1" + example * many)
        self.assertEqual(report(HEAD + "\nleast bound 1" + " 0,0=*,*" * 64), "row price 0")
        self.each_way("least bound 1" + " 0,0=*,*" * 65)

    def test_boxes_that_there_are_not_or_that_do_not_rise(self):
        for boxes in [
            "2", "3", "0 2", "0 1 2", "1 0", "0 0", "1 1", "0 1 1", "0 1 0", "-1", "-1 0", "00", "01", "0,1", "x", "10", "0 01",
            "9" * 4000,
        ]:
            self.each_way("cheap width 2 look " + boxes + " row 0")
            self.each_way("cheap width 2 look " + boxes + " row")
        for boxes in ["", " 0", " 1", " 0 1"]:
            self.assertEqual(report(HEAD + "\ncheap width 2 look" + boxes + " row"), "row price 0")
        for size in SIZES:
            for looked in looked_at(size)[1:] + [[size[1]], [0, 0], [1, 0], list(range(size[1] + 1)), list(range(size[1]))[::-1]]:
                self.looked_up(f"bits {size[0]} boxes {size[1]}\nnot 0 price 1\n" + cheap_line(1, looked, (0, 0)))

    def test_numbers_that_the_stock_has_not(self):
        for row in ["3", "4", "0 3", "3 0", "0 1 2 3", "-1", "-3", "0 -1", "00", "01", "0,1", "x", "10", "12", "100", "9" * 4000]:
            self.each_way("cheap width 2 look 0 row " + row)
            self.each_way("cheap width 2 look row " + row)
        for size in SIZES:
            for stock in some_stocks(size)[:12]:
                for number in range(10):
                    text = show_stock(size, stock) + "\n" + cheap_line(1, [], (0, number))
                    self.assertIs(self.looked_up(text), number < len(stock))

    def test_twelve_steps_and_one_more(self):
        self.assertEqual(report(HEAD + "\ncheap width 2 look 0 row" + " 1" * 12), "row price 0")
        self.assertEqual(report(HEAD + "\ncheap width 1 look 0 row" + " 1" * 12), "row" + " 1" * 12 + " price 12")
        for many in [13, 14, 24, 40, 1000]:
            self.each_way("cheap width 2 look 0 row" + " 1" * many)
            self.each_way("cheap width 2 look row" + " 1" * many)

    def test_the_first_wrong_line_of_several(self):
        self.wrong_at("bits 7 boxes 1\nnothing\nleast bound 41", 0)
        self.wrong_at("bits 2 boxes 2\nnothing\nleast bound 41", 1)
        self.wrong_at(HEAD + "\nnot 0 price 1\nleast bound 41", 4)
        self.wrong_at(HEAD + "\nleast bound 41\nnot 0 price 1\n", 4)
        self.wrong_at(HEAD + "\nleast bound 40\ncheap width 0 look row\nleast bound 41", 5)

    def test_other_line_ends_and_signs(self):
        text = HEAD + "\nleast bound 3\ncheap width 2 look 0 row 1"
        self.wrong_at(text.replace("\n", "\r\n"), 0)
        self.wrong_at(text.replace(" bound", "\tbound"), 4)
        self.wrong_at(text + "\r", 5)
        self.wrong_at(text.replace("bound 3", "bound \uff13"), 4)
        self.wrong_at(text.replace("row 1", "row \u00b9"), 5)

    def test_one_sign_other(self):
        taken = []
        for text in [
            "bits 2 boxes 2\nnot 0 price 1\nleast bound 12 0,1=3,* 1,0=*,*\ncheap width 2 look 0 1 row 0 0",
            "bits 1 boxes 1\nput 0 1 price 9\nup 0 price 1\ncheap width 1 look row\nleast bound 0",
        ]:
            for spoiled in with_one_sign_other(text):
                taken.append(self.looked_up(spoiled))
            for place in range(len(text)):
                for sign in ["*", "=", ",", "\n\n"]:
                    taken.append(self.looked_up(text[:place] + sign + text[place:]))
                    taken.append(self.looked_up(text[:place] + sign + text[place + 1:]))
        self.assertGreater(taken.count(True), 100)
        self.assertGreater(taken.count(False), 3000)

    def test_lines_turned_about_left_out_and_told_again(self):
        chance = random.Random(9)
        lines = HEAD.split("\n") + ["least bound 3 0,0=*,1", "cheap width 2 look 0 row 1", "", "least bound 41", "up 1 price 2"]
        taken = []
        for _ in range(3000):
            some = [chance.choice(lines) for _ in range(chance.randint(0, 4))]
            taken.append(self.looked_up("\n".join(lines[:chance.randint(0, 4)] + some)))
        self.assertGreater(taken.count(True), 100)


class OtherRefusals(unittest.TestCase):
    UNLIKE = "least bound 3 0,0=1,* 0,0=2,*"
    GREAT = "bits 1 boxes 3\n" + "\n".join(show_stock((1, 3), FIVE_HUNDRED).split("\n")[1:])

    def refused(self, text, refusal):
        with self.assertRaises(refusal) as taken:
            report(text)
        self.assertIs(type(taken.exception), refusal)

    def test_unlike_words_are_refused(self):
        for ask in [
            self.UNLIKE, "least bound 0 0,0=1,* 0,0=2,*", "least bound 40 3,3=*,0 0,0=1,1 3,3=*,3",
            "least bound 3 0,0=1,1 0,0=*,* 0,0=1,2",
        ]:
            self.refused(HEAD + "\n" + ask, NoWish)
            self.refused(HEAD + "\nleast bound 3\n" + ask, NoWish)
            self.refused(HEAD + "\n" + ask + "\nleast bound 3", NoWish)
        self.assertEqual(report(HEAD + "\nleast bound 3 0,0=1,* 0,0=1,0 0,1=2,*"), "none")

    def test_more_than_five_hundred_tables_are_refused(self):
        for bound in [35, 36, 40]:
            self.refused(self.GREAT + f"\nleast bound {bound}", TooGreat)
            self.refused(self.GREAT + f"\nleast bound 3\nleast bound {bound} 0,0,0=1,*,*", TooGreat)
            self.refused(self.GREAT + f"\nleast bound {bound} 0,0,0=1,*,*\nleast bound 3", TooGreat)
        self.assertEqual(report(self.GREAT + "\nleast bound 34\nleast bound 34 0,0,0=1,*,*"), "row price 0\nnone")

    def test_a_window_that_is_too_great(self):
        rich = "bits 2 boxes 3\nadd 0 1 price 1\nxor 1 2 price 1\nand 2 0 price 1\nnot 0 price 1\nup 1 price 1\ncopy 0 2 price 1\n"
        rich += "down 2 price 1\nput 1 3 price 9\n"
        self.refused(rich + "cheap width 1 look 1 row 7", TooGreat)
        self.refused(rich + "cheap width 1 look row 7", TooGreat)
        self.refused(rich + "cheap width 1 look row 3\ncheap width 1 look 1 row 3 7", TooGreat)
        self.assertEqual(report(rich + "cheap width 1 look row 3 3"), "row price 0")

    def test_a_line_not_as_told_goes_ahead_of_them(self):
        unlike, great = "least bound 40 0,0,0=1,*,* 0,0,0=0,*,*", "least bound 40"
        for ask, head in [(self.UNLIKE, HEAD), (unlike, self.GREAT), (great, self.GREAT)]:
            lines = len(head.split("\n"))
            for spoiled in ["", "least bound 41", "cheap width 0 look row", "not 1 price 1", "nothing"]:
                for many in [1, 2, 3]:
                    with self.assertRaises(NoText) as taken:
                        report("\n".join([head] + [ask] * many + [spoiled]))
                    self.assertEqual(taken.exception.line, lines + many)

    def test_ask_by_ask(self):
        unlike, great = "least bound 3 0,0,0=1,*,* 0,0,0=0,*,*", "least bound 40"
        self.refused("\n".join([self.GREAT, unlike, great]), NoWish)
        self.refused("\n".join([self.GREAT, great, unlike]), TooGreat)
        self.refused("\n".join([self.GREAT, "least bound 3", great, unlike]), TooGreat)
        self.refused("\n".join([self.GREAT, "cheap width 1 look row 0", unlike, great]), NoWish)

    def test_of_one_ask_no_wish_goes_first(self):
        self.refused(self.GREAT + "\nleast bound 40 0,0,0=1,*,* 0,0,0=0,*,*", NoWish)
        self.refused(self.GREAT + "\nleast bound 40 0,0,0=1,*,* 0,0,0=1,*,*", TooGreat)


class Whole(unittest.TestCase):
    def test_every_line_that_may_be_written_is_taken(self):
        chance = random.Random(6)
        for size in SIZES:
            for _ in range(6):
                steps = chance.sample(all_steps(size), chance.randint(1, 8))
                stock = [(step, chance.randint(1, 9)) for step in steps]
                asks = []
                for _ in range(chance.randint(1, 4)):
                    row = some_row(chance, stock, 12)
                    examples = some_examples(chance, size, chance.randint(0, 9), table_of(size, stock, row))
                    asks.append(cheap_line(chance.randint(1, 4), chance.choice(looked_at(size)[1:]), row))
                    asks.append(least_line(chance.randint(0, 40), examples))
                text = "\n".join([show_stock(size, stock)] + asks)
                self.assertIsNone(first_wrong_line(text))
                try:
                    self.assertEqual(len(report(text).split("\n")), len(asks))
                except TooGreat:
                    pass
