"""Folds of any shape: the hurdles they need and the parts they have."""

from hurdlefolds.ground import ABOVE, BELOW, LEFT, RIGHT, SIDE_WORDS


def cell_beyond(field, cell, side):
    row = cell // field.columns
    column = cell % field.columns
    if side == ABOVE and row > 0:
        return cell - field.columns
    if side == RIGHT and column < field.columns - 1:
        return cell + 1
    if side == BELOW and row < field.rows - 1:
        return cell + field.columns
    if side == LEFT and column > 0:
        return cell - 1
    return None


def needs_hurdle(field, inside, cell, side):
    other = cell_beyond(field, cell, side)
    if other is None:
        return field.walls[side] == 0
    return other not in inside


# A dict is asked for a cell at once; a list would be gone through for each side of each cell.
def marked(cells):
    inside = {}
    for cell in cells:
        inside[cell] = True
    return inside


def hurdles(field, cells):
    inside = marked(cells)
    found = []
    for cell in cells:
        for side in range(len(SIDE_WORDS)):
            if needs_hurdle(field, inside, cell, side):
                found.append((cell, side))
    return found


def part_from(field, cells, start):
    part = [start]
    waiting = [start]
    while len(waiting) > 0:
        cell = waiting.pop()
        for side in range(len(SIDE_WORDS)):
            other = cell_beyond(field, cell, side)
            if other is not None and other in cells and other not in part:
                part.append(other)
                waiting.append(other)
    return part


def parts(field, cells):
    found = []
    reached = {}
    for cell in cells:
        if cell not in reached:
            part = part_from(field, cells, cell)
            found.append(part)
            for other in part:
                reached[other] = True
    return found
