"""Shelves: the books of one size and stock, each made once, for those who ask for many."""

from leastrow.books import book_of


class Shelf:
    def __init__(self, size, stock):
        self.size = size
        self.stock = stock
        self.made = {}

    def book_up_to(self, bound):
        if bound not in self.made:
            self.made[bound] = book_of(self.size, self.stock, bound)
        return self.made[bound]
