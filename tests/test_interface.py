"""The names and arguments that the document's interface tells."""

import importlib
import inspect
import unittest

INTERFACE = {
    "sizes": ["is_size(thing)", "fillings(size)", "number_of(size, filling)"],
    "steps": ["is_step(size, thing)", "step_on(size, step, filling)", "written_box(step)", "boxes_read(step)"],
    "stocks": ["is_stock(size, thing)"],
    "stocktexts": ["show_stock(size, stock)", "read_stock(text)"],
    "rows": ["price_of(stock, row)", "row_on(size, stock, row, filling)", "is_less(stock, one, other)"],
    "tables": ["table_of(size, stock, row)", "table_behind(size, one, other)", "parts_at(size, one, other, looked=None)"],
    "wishes": [
        "does_wish(size, wish, table)", "misses_at(size, wish, table)", "wish_like(size, table, looked=None)",
        "both_wishes(size, one, other)", "is_loose(size, one, other)",
    ],
    "examples": ["wish_of(size, examples)"],
    "books": ["book_of(size, stock, bound)"],
    "papers": ["holds(size, stock, bound, book)"],
    "least": ["least_row(size, stock, bound, wish)", "shows_none(size, stock, bound, wish, book)"],
    "turning": [
        "turn_back(turn)", "turned_filling(turn, filling)", "turned_step(turn, step)", "turned_stock(turn, stock)",
        "turned_boxes(turn, looked)", "turned_table(size, turn, table)", "turned_wish(size, turn, wish)",
    ],
    "later": ["boxes_later(size, stock, row, looked=None)", "pruned(size, stock, row, looked=None)"],
    "windows": [
        "wish_at(size, stock, row, place, many, looked=None)", "piece_for(size, stock, row, place, many, looked=None)",
    ],
    "cheaper": [
        "gone_through(size, stock, row, changes, looked=None)", "is_cheap(size, stock, row, looked=None, width=2)",
        "made_cheaper(size, stock, row, looked=None, width=2)",
    ],
    "reports": ["report(text)"],
}


class Interface(unittest.TestCase):
    def test_every_function_has_its_name_and_arguments(self):
        for module, wanted in INTERFACE.items():
            held = importlib.import_module("leastrow." + module)
            for one in wanted:
                name = one.partition("(")[0]
                self.assertEqual(name + str(inspect.signature(getattr(held, name))), one)
