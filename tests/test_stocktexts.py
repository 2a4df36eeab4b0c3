import unittest

from leastrow.errors import NoText
from leastrow.stocks import is_stock
from leastrow.stocktexts import read_stock, show_stock
from tests.helper import LINES_OF, SIZES, STEP_WORDS, same_kinds, size_lines, some_stocks, told_of, with_one_sign_other

GOOD = "bits 2 boxes 2\nadd 0 1 price 2\nnot 0 price 1"
GOOD_STOCK = [(("add", 0, 1), 2), (("not", 0), 1)]


def first_wrong_line(text):
    """By looking the lines up among all that may be written; None where each is as told."""
    head, *lines = text.split("\n")
    size = size_lines().get(head)
    if size is None:
        return 0
    told = []
    for number, line in enumerate(lines, 1):
        step = LINES_OF[size].get(line)
        if step is None or step in told or number > 8:
            return number
        told.append(step)
    return None if told else 1


class ShowStock(unittest.TestCase):
    def test_written_out(self):
        self.assertEqual(show_stock((2, 2), GOOD_STOCK), GOOD)
        stock = [
            (("and", 0, 1), 1), (("or", 1, 0), 2), (("xor", 1, 1), 3), (("take", 0, 0), 4),
            (("copy", 0, 1), 5), (("put", 1, 7), 6), (("up", 0), 8), (("down", 1), 9),
        ]
        self.assertEqual(show_stock((3, 2), stock), "\n".join([
            "bits 3 boxes 2", "and 0 1 price 1", "or 1 0 price 2", "xor 1 1 price 3", "take 0 0 price 4",
            "copy 0 1 price 5", "put 1 7 price 6", "up 0 price 8", "down 1 price 9",
        ]))
        self.assertEqual(show_stock((6, 1), [(("put", 0, 63), 9)]), "bits 6 boxes 1\nput 0 63 price 9")
        self.assertEqual(show_stock((1, 6), [(("put", 5, 0), 1)]), "bits 1 boxes 6\nput 5 0 price 1")

    def test_each_step_and_price_of_each_size(self):
        for size in SIZES:
            head = f"bits {size[0]} boxes {size[1]}\n"
            for line, step in LINES_OF[size].items():
                self.assertEqual(show_stock(size, [(step, int(line[-1]))]), head + line)

    def test_the_order_is_the_stocks(self):
        self.assertEqual(show_stock((2, 2), GOOD_STOCK[::-1]), "bits 2 boxes 2\nnot 0 price 1\nadd 0 1 price 2")

    def test_what_is_handed_in_stays(self):
        for size in SIZES:
            for stock in some_stocks(size):
                self.assertIs(type(told_of(self, show_stock, size, stock)), str)


class ReadStock(unittest.TestCase):
    def wrong_at(self, text, line):
        with self.assertRaises(NoText) as taken:
            read_stock(text)
        self.assertIs(type(taken.exception), NoText)
        self.assertIs(type(taken.exception.line), int)
        self.assertEqual(taken.exception.line, line, text[:200])

    def looked_up(self, text):
        line = first_wrong_line(text)
        if line is not None:
            self.wrong_at(text, line)
            return
        size, stock = read_stock(text)
        self.assertTrue(is_stock(size, stock), text)
        self.assertEqual(show_stock(size, stock), text)

    def test_written_out(self):
        told = read_stock(GOOD)
        self.assertTrue(same_kinds(told, ((2, 2), GOOD_STOCK)))
        told = read_stock("bits 6 boxes 1\nput 0 63 price 9")
        self.assertTrue(same_kinds(told, ((6, 1), [(("put", 0, 63), 9)])))

    def test_what_is_written_is_read_back(self):
        for size in SIZES:
            for stock in some_stocks(size):
                self.assertTrue(same_kinds(read_stock(show_stock(size, stock)), (size, stock)), (size, stock))

    def test_each_step_and_price_of_each_size_is_read_back(self):
        for size in SIZES:
            head = f"bits {size[0]} boxes {size[1]}\n"
            for line, step in LINES_OF[size].items():
                told = read_stock(head + line)
                self.assertTrue(same_kinds(told, (size, [(step, int(line[-1]))])), (size, line))

    def test_the_list_is_the_askers_own(self):
        self.assertEqual(told_of(self, read_stock, GOOD), ((2, 2), GOOD_STOCK))

    def test_sizes_that_are_none(self):
        for bits in range(13):
            for boxes in range(13):
                text = f"bits {bits} boxes {boxes}\nnot 0 price 1"
                if (bits, boxes) in SIZES:
                    self.assertEqual(read_stock(text), ((bits, boxes), [(("not", 0), 1)]))
                else:
                    self.wrong_at(text, 0)

    def test_first_lines_that_are_not_as_told(self):
        for line in [
            "", " ", "bits", "bits 2", "bits 2 boxes", "bits 2 boxes ", "bits 2 boxes 2 ", " bits 2 boxes 2",
            "bits  2 boxes 2", "bits 2  boxes 2", "bits 2 boxes  2", "bits 2 boxes 2 2", "boxes 2 bits 2", "Bits 2 boxes 2",
            "bits 2 Boxes 2", "bit 2 boxes 2", "bits 2 box 2", "2 2", "bits two boxes 2", "bits 02 boxes 2",
            "bits 2 boxes 02", "bits 00 boxes 2", "bits -1 boxes 2", "bits 2 boxes -2", "bits +2 boxes 2", "bits 2. boxes 2",
            "bits 1_1 boxes 1", "bits 2 boxes 2,", "bits 0x1 boxes 2", "bits 2 2 boxes", "bits 2 bits 2",
            "not 0 price 1", "bits 2 boxes 2 price 1", "bits " + "1" * 5900 + " boxes 1", "bits 1 boxes " + "9" * 5900,
        ]:
            self.wrong_at(line, 0)
            self.wrong_at(line + "\n", 0)
            self.wrong_at(line + "\nnot 0 price 1", 0)
            self.wrong_at(line + "\nnothing", 0)

    def test_no_step_behind_the_size(self):
        for line in size_lines():
            self.wrong_at(line, 1)
            self.wrong_at(line + "\n", 1)
            self.wrong_at(line + "\n\n", 1)
            self.wrong_at(line + "\n\nnot 0 price 1", 1)

    def test_lines_of_steps_that_are_not_as_told(self):
        for line in [
            "", " ", "not", "not 0", "not 0 price", "not 0 price ", "price 1", " price 1", "not price 1", "not  price 1",
            " not 1 price 1", "not 1 price 1 ", "not  1 price 1", "not 1  price 1", "not 1 price  1", "not 1 price 1 1",
            "not 1 1 price 1", "not 1 cost 1", "not 1 1", "not 1 Price 1", "Not 1 price 1", "not 1 price 0",
            "not 1 price 10", "not 1 price 11", "not 1 price 99", "not 1 price 100", "not 1 price -1", "not 1 price 01",
            "not 1 price +1", "not 1 price 1.", "not 1 price 1 price 1", "not 1 price one", "not 01 price 1",
            "not 00 price 1", "not 2 price 1", "not -1 price 1", "not 10 price 1", "not 1_0 price 1", "not x price 1",
            "add 0 price 1", "add 1 1 1 price 1", "add 0 2 price 1", "add 2 0 price 1", "add 0,1 price 1", "add 01 price 1",
            "put 0 4 price 1", "put 2 0 price 1", "put 0 price 1", "put 0 -1 price 1", "put 0 00 price 1", "put 0 03 price 1",
            "nand 0 1 price 1", "sub 0 1 price 1", "0 1 price 1", "bits 2 boxes 2", "1 not price 1", "not 1 1 price",
            "not 1 price 1,", "not * price 1", "not None price 1", "not True price 1", "price 1 price 1", "~",
            "not " + "1" * 5900 + " price 1", "not 1 price " + "1" * 5900, "put 0 " + "0" * 5900 + " price 1", "1" * 5900,
        ]:
            self.wrong_at("bits 2 boxes 2\n" + line, 1)
            self.wrong_at("bits 2 boxes 2\n" + line + "\nnot 0 price 1", 1)
            self.wrong_at(GOOD + "\n" + line, 3)
            self.wrong_at(GOOD + "\n" + line + "\nup 0 price 1", 3)
            self.wrong_at(GOOD + "\n" + line + "\nnothing", 3)

    def test_words_of_steps_with_too_few_and_too_many_numbers(self):
        for word in STEP_WORDS:
            for numbers in ["", " 0", " 0 0", " 0 0 0", " 0 0 0 0"]:
                self.looked_up(f"bits 2 boxes 2\n{word}{numbers} price 1")

    def test_every_pair_of_numbers_near_the_bounds(self):
        for size in SIZES:
            for word in STEP_WORDS:
                for i in range(8):
                    self.looked_up(f"bits {size[0]} boxes {size[1]}\n{word} {i} price 1")
                    for j in list(range(10)) + [31, 32, 63, 64, 65]:
                        self.looked_up(f"bits {size[0]} boxes {size[1]}\n{word} {i} {j} price 1")

    def test_steps_told_again(self):
        self.wrong_at("bits 2 boxes 2\nnot 0 price 1\nnot 0 price 1", 2)
        self.wrong_at("bits 2 boxes 2\nnot 0 price 1\nnot 0 price 2", 2)
        self.wrong_at(GOOD + "\nadd 0 1 price 9", 3)
        self.wrong_at(GOOD + "\nnot 1 price 1\nadd 0 1 price 2\nnot 0 price 1", 4)
        self.wrong_at(GOOD + "\nadd 0 1 price 2\nnothing", 3)
        self.assertEqual(len(read_stock(GOOD + "\nadd 1 0 price 2\nnot 1 price 1")[1]), 4)

    def test_eight_steps_and_a_ninth(self):
        for size in SIZES:
            lines = [line for line in LINES_OF[size] if line.endswith("1")]
            text = "\n".join([f"bits {size[0]} boxes {size[1]}"] + lines[:8])
            self.assertEqual(len(read_stock(text)[1]), 8)
            for ninth in [lines[8], lines[0], "", "nothing"]:
                self.wrong_at(text + "\n" + ninth, 9)
                self.wrong_at(text + "\n" + ninth + "\n" + lines[9], 9)

    def test_the_first_wrong_line_of_several(self):
        self.wrong_at("bits 7 boxes 1\nnothing", 0)
        self.wrong_at("bits 2 boxes 2\nnothing\nnot 0 price 1\nnot 0 price 1", 1)
        self.wrong_at("bits 2 boxes 2\nnot 0 price 1\nnot 0 price 1\nnothing", 2)

    def test_no_line_end_at_the_end(self):
        self.wrong_at(GOOD + "\n", 3)
        self.wrong_at(GOOD + "\n\n", 3)
        self.wrong_at("\n" + GOOD, 0)
        self.wrong_at(GOOD + " ", 2)

    def test_other_line_ends_and_signs(self):
        self.wrong_at(GOOD.replace("\n", "\r\n"), 0)
        self.wrong_at(GOOD.replace("\n", "\r"), 0)
        self.wrong_at(GOOD.replace(" ", "\t"), 0)
        self.wrong_at("bits 2 boxes \u00b2\nnot 0 price 1", 0)
        self.wrong_at("bits 2 boxes 2\nnot 0 price \uff11", 1)
        self.wrong_at("bits 2 boxes 2\nnot 0 price 1\u2028not 1 price 1", 1)

    def test_one_sign_other(self):
        for text in [GOOD, "bits 1 boxes 6\nput 5 1 price 9", "bits 6 boxes 1\nput 0 63 price 1\nup 0 price 1"]:
            for spoiled in with_one_sign_other(text):
                self.looked_up(spoiled)

    def test_lines_turned_about_left_out_and_told_again(self):
        lines = GOOD.split("\n") + ["not 1 price 3"]
        for a in lines:
            for b in lines:
                for c in lines:
                    self.looked_up("\n".join([a, b, c]))
                    self.looked_up("\n".join([lines[0], a, b, c]))
