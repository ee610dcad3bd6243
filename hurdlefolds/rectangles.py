"""Rectangles: what they cost, where they are put, the greatest, the cheapest and the rounded one."""

from hurdlefolds.ground import ABOVE, BELOW, LEFT, RIGHT


# A line over the whole field ends at both edges; a shorter one can end at one of them only.
def line_cost(whole, walled):
    if whole:
        return 2 - walled
    return 1 if walled > 0 else 2


def rectangle_cost(field, high, wide):
    walls = field.walls
    row_cost = line_cost(wide == field.columns, walls[RIGHT] + walls[LEFT])
    column_cost = line_cost(high == field.rows, walls[ABOVE] + walls[BELOW])
    return high * row_cost + wide * column_cost


def first_line(last_that_fits, walled_before, walled_behind):
    if walled_behind == 1 and walled_before == 0:
        return last_that_fits
    return 0


def rectangle_put(field, high, wide):
    walls = field.walls
    row = first_line(field.rows - high, walls[ABOVE], walls[BELOW])
    column = first_line(field.columns - wide, walls[LEFT], walls[RIGHT])
    return [row, column, high, wide]


def every_rectangle(field):
    found = []
    for high in range(1, field.rows + 1):
        for wide in range(1, field.columns + 1):
            found.append((high, wide, rectangle_cost(field, high, wide)))
    return found


def first_size(ranked):
    if len(ranked) == 0:
        return None
    first = min(ranked)
    return (first[2], first[3])


# The least tuple is the greatest rectangle: most cells, then least cost, then fewest rows.
def greatest_rectangle(field, most_hurdles):
    ranked = []
    for high, wide, cost in every_rectangle(field):
        if cost <= most_hurdles:
            ranked.append((-high * wide, cost, high, wide))
    return first_size(ranked)


# The least tuple is the cheapest rectangle: least cost, then most cells, then fewest rows.
def cheapest_rectangle(field, least_cells):
    ranked = []
    for high, wide, cost in every_rectangle(field):
        if high * wide >= least_cells:
            ranked.append((cost, -high * wide, high, wide))
    return first_size(ranked)


def most_cells(field, most_hurdles):
    greatest = greatest_rectangle(field, most_hurdles)
    if greatest is None:
        return 0
    return greatest[0] * greatest[1]


def rounded_size(field, cells):
    in_rows = [0] * field.rows
    in_columns = [0] * field.columns
    for cell in cells:
        in_rows[cell // field.columns] += 1
        in_columns[cell % field.columns] += 1
    walls = field.walls
    full_row = walls[RIGHT] + walls[LEFT] == 2 and field.columns in in_rows
    full_column = walls[ABOVE] + walls[BELOW] == 2 and field.rows in in_columns
    if full_row or full_column:
        return (field.rows, field.columns)
    return (field.rows - in_rows.count(0), field.columns - in_columns.count(0))
