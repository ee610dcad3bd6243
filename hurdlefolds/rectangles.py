"""Rectangles: what they cost, where they are put, and the greatest of so many hurdles."""

from hurdlefolds.ground import ABOVE, BELOW, LEFT, RIGHT


# A line over the whole field ends at both edges; a shorter one can end at one of them only.
def line_cost(whole, walled):
    if whole:
        return 2 - walled
    return 1 if walled > 0 else 2


def rectangle_cost(field, high, wide):
    walls = field.walls
    row_cost = line_cost(wide == field.columns, walls[RIGHT] + walls[LEFT])
    column_cost = line_cost(high == field.rows, walls[ABOVE] + walls[BELOW])
    return high * row_cost + wide * column_cost


def first_line(last_that_fits, walled_before, walled_behind):
    if walled_behind == 1 and walled_before == 0:
        return last_that_fits
    return 0


def rectangle_put(field, high, wide):
    walls = field.walls
    row = first_line(field.rows - high, walls[ABOVE], walls[BELOW])
    column = first_line(field.columns - wide, walls[LEFT], walls[RIGHT])
    return [row, column, high, wide]


# The least tuple is the greatest rectangle: most cells, then least cost, then fewest rows.
def greatest_rectangle(field, most_hurdles):
    ranked = []
    for high in range(1, field.rows + 1):
        for wide in range(1, field.columns + 1):
            cost = rectangle_cost(field, high, wide)
            if cost <= most_hurdles:
                ranked.append((-high * wide, cost, high, wide))
    if len(ranked) == 0:
        return None
    first = min(ranked)
    return (first[2], first[3])
