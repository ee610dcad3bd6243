"""Folds of any shape: what they cost, their hurdles, their parts."""

import unittest

from helper import cost, every_walls, field, field_text, last, run, sides


def hurdles_by_rows(rows, columns, walls, cells):
    """The hurdles once more, by rows and columns on a field with a rim around it."""
    steps = ((-1, 0, "above"), (0, 1, "right"), (1, 0, "below"), (0, -1, "left"))
    found = []
    for cell in cells:
        row, column = divmod(cell, columns)
        for side, (down, along, name) in enumerate(steps):
            there = (row + down, column + along)
            if 0 <= there[0] < rows and 0 <= there[1] < columns:
                needed = there[0] * columns + there[1] not in cells
            else:
                needed = name not in walls
            if needed:
                found.append((cell, side))
    return found


def parts_by_joining(columns, cells):
    """The parts once more, by one name a part that cells next to one another come to share."""
    name = {cell: cell for cell in cells}
    for turn in cells:
        for cell in cells:
            for other in cells:
                beside = cell // columns == other // columns and abs(cell - other) == 1
                if beside or abs(cell - other) == columns:
                    name[cell] = name[other] = min(name[cell], name[other])
    return len(set(name.values()))


class Cost(unittest.TestCase):
    def test_no_cells(self):
        self.assertEqual(run(cost([]), field("field 8 8 walls"), cost([]), sides([])), [[0, 0, 0], [8, 8, 0], [0, 0, 0], [0]])

    def test_all_cells(self):
        for rows, columns in ((1, 1), (1, 8), (8, 1), (3, 5), (8, 8)):
            everything = list(range(rows * columns))
            for walls in every_walls():
                needed = ((("above" not in walls) + ("below" not in walls)) * columns
                          + (("right" not in walls) + ("left" not in walls)) * rows)
                self.assertEqual(last(field(field_text(rows, columns, walls)), cost(everything)),
                                 [needed, rows * columns, 1])

    def test_parts_hang_together_at_sides_and_not_at_corners(self):
        three = field("field 3 3 walls")
        self.assertEqual(last(three, cost([0, 4, 8])), [12, 3, 3])
        self.assertEqual(last(three, cost([0, 2, 4, 6, 8])), [20, 5, 5])
        self.assertEqual(last(three, cost([0, 1, 4, 5])), [10, 4, 1])
        self.assertEqual(last(three, cost([0, 1, 2, 6, 7, 8])), [16, 6, 2])

    def test_the_end_of_a_row_is_not_beside_the_next_ones_beginning(self):
        self.assertEqual(last(field("field 2 3 walls"), cost([2, 3])), [8, 2, 2])
        self.assertEqual(last(field("field 2 3 walls right left"), cost([2, 3])), [6, 2, 2])

    def test_one_column_hangs_together(self):
        self.assertEqual(last(field("field 8 1 walls"), cost([0, 1, 2, 5, 7])), [16, 5, 3])

    def test_a_ring_needs_hurdles_within(self):
        self.assertEqual(last(field("field 3 3 walls above right below left"), cost([0, 1, 2, 3, 5, 6, 7, 8])), [4, 8, 1])

    def test_a_winding_fold_is_one_part(self):
        rows = [list(range(8 * row, 8 * row + 8)) for row in (0, 2, 4, 6)]
        joints = [15, 24, 47, 56]
        winding = sorted(joints + [cell for row in rows for cell in row])
        self.assertEqual(last(field("field 8 8 walls"), cost(winding))[1:], [36, 1])

    def test_a_fork_is_one_part(self):
        self.assertEqual(last(field("field 3 3 walls"), cost([0, 2, 3, 5, 6, 7, 8]))[1:], [7, 1])


class Sides(unittest.TestCase):
    def test_one_cell(self):
        self.assertEqual(last(sides([0])), [4, 0, 0, 0, 1, 0, 2, 0, 3])

    def test_by_cells_then_sides(self):
        self.assertEqual(last(field("field 2 2 walls"), sides([0, 1])), [6, 0, 0, 0, 2, 0, 3, 1, 0, 1, 1, 1, 2])

    def test_the_last_row_and_column(self):
        self.assertEqual(last(field("field 8 8 walls"), sides([63])), [4, 63, 0, 63, 1, 63, 2, 63, 3])
        self.assertEqual(last(field("field 8 8 walls right below"), sides([63])), [2, 63, 0, 63, 3])
        self.assertEqual(last(field("field 8 8 walls above left"), sides([63])), [4, 63, 0, 63, 1, 63, 2, 63, 3])

    def test_each_wall_alone_opposite_walls_all_and_none(self):
        for walls in every_walls():
            needed = [side for side, name in enumerate(("above", "right", "below", "left")) if name not in walls]
            answer = [len(needed)]
            for side in needed:
                answer += [0, side]
            self.assertEqual(last(field(field_text(1, 1, walls)), sides([0])), answer)

    def test_a_wall_is_no_wall_within_the_field(self):
        self.assertEqual(last(field("field 3 3 walls above right below left"), sides([4])), [4, 4, 0, 4, 1, 4, 2, 4, 3])


class EveryFold(unittest.TestCase):
    def test_small_fields(self):
        for rows, columns in ((1, 4), (4, 1), (2, 3), (3, 2)):
            for walls in every_walls():
                begin = field(field_text(rows, columns, walls))
                for number in range(2 ** (rows * columns)):
                    self.compare(rows, columns, walls, begin, [c for c in range(rows * columns) if number >> c & 1])

    def test_folds_of_a_large_field(self):
        for columns in (7, 8):
            for walls in every_walls():
                begin = field(field_text(8, columns, walls))
                for step in (2, 3, 5, 8, 9):
                    self.compare(8, columns, walls, begin, list(range(0, 8 * columns, step)))
                    self.compare(8, columns, walls, begin, [c for c in range(8 * columns) if c * c % 11 < step])

    def compare(self, rows, columns, walls, begin, cells):
        wanted = hurdles_by_rows(rows, columns, walls, cells)
        found = run(begin, cost(cells), sides(cells))
        self.assertEqual(found[1], [len(wanted), len(cells), parts_by_joining(columns, cells)])
        self.assertEqual(found[2], [len(wanted)] + [number for pair in wanted for number in pair])


if __name__ == "__main__":
    unittest.main()
