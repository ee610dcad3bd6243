"""The folds of days: where their hurdles stand, and how many are carried from one day to another."""

from hurdlefolds.folds import cell_beyond, hurdles
from hurdlefolds.ground import ABOVE, BELOW, LEFT, RIGHT


def day_cells(field, day):
    row = day[0]
    column = day[1]
    cells = []
    for line in range(row, row + day[2]):
        for along in range(column, column + day[3]):
            cells.append(line * field.columns + along)
    return cells


# A hurdle between two cells can be seen from both: it is told from the lower or the right one of them,
# so that the same place is told in one way alone.
def place_told(field, cell, side):
    other = cell_beyond(field, cell, side)
    if side == RIGHT and other is not None:
        return (other, LEFT)
    if side == BELOW and other is not None:
        return (other, ABOVE)
    return (cell, side)


def day_places(field, day):
    places = {}
    for cell, side in hurdles(field, day_cells(field, day)):
        places[place_told(field, cell, side)] = True
    return places


def all_places(field):
    return [day_places(field, day) for day in field.days]


def carried(standing, needed):
    return len([place for place in needed if place not in standing])


# Nothing stands ahead of the first fold, so all of its hurdles are carried.
def carried_each(row_of_places):
    found = []
    standing = {}
    for needed in row_of_places:
        found.append(carried(standing, needed))
        standing = needed
    return found


def times_folded(field):
    times = [0] * (field.rows * field.columns)
    for day in field.days:
        for cell in day_cells(field, day):
            times[cell] += 1
    return times
