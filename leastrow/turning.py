"""Boxes turned about: what becomes of fillings, steps, stocks, looked-at boxes, tables and wishes."""

from leastrow.sizes import fillings
from leastrow.sizes import number_of


def turn_back(turn):
    return tuple([turn.index(box) for box in range(len(turn))])


def turned_filling(turn, filling):
    return tuple([filling[box] for box in turn_back(turn)])


def turned_step(turn, step):
    if step[0] == "put":
        return ("put", turn[step[1]], step[2])
    return (step[0],) + tuple([turn[box] for box in step[1:]])


def turned_stock(turn, stock):
    return [(turned_step(turn, step), price) for step, price in stock]


def turned_boxes(turn, looked):
    return sorted([turn[box] for box in looked])


# What stands for a filling in a turned table or wish stood for the filling turned back.
def turned_places(size, turn, told):
    back = turn_back(turn)
    return [told[number_of(size, turned_filling(back, filling))] for filling in fillings(size)]


def turned_table(size, turn, table):
    return tuple([turned_filling(turn, made) for made in turned_places(size, turn, table)])


def turned_choice(turn, choice):
    if choice is None:
        return None
    return sorted([turned_filling(turn, filling) for filling in choice])


def turned_wish(size, turn, wish):
    return [turned_choice(turn, choice) for choice in turned_places(size, turn, wish)]
