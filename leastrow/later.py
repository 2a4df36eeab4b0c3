"""What is looked at later: the boxes that matter along a row, and the row without steps that nothing looks at."""

from leastrow.steps import boxes_read
from leastrow.steps import written_box
from leastrow.tables import boxes_looked_at


def boxes_ahead(step, behind):
    box = written_box(step)
    if box not in behind:
        return list(behind)
    return sorted(set([other for other in behind if other != box] + boxes_read(step)))


def boxes_later(size, stock, row, looked=None):
    told = [boxes_looked_at(size, looked)]
    for number in reversed(row):
        told.append(boxes_ahead(stock[number][0], told[-1]))
    return list(reversed(told))


def pruned(size, stock, row, looked=None):
    later = boxes_later(size, stock, row, looked)
    kept = []
    left_out = []
    for place, number in enumerate(row):
        if written_box(stock[number][0]) in later[place + 1]:
            kept.append(number)
        else:
            left_out.append(place)
    return (tuple(kept), left_out)
