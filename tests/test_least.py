"""The cheapest rectangle for so many cells, and the curve of the greatest ones."""

import unittest

from helper import (best, curve, day, every_walls, field, field_text, fold_cost, last, least, rect, run, run_many, undo)

SIZES = ((1, 1), (1, 2), (2, 1), (1, 8), (8, 1), (2, 3), (3, 2), (3, 3), (4, 7), (8, 5), (8, 8))


class Least(unittest.TestCase):
    def test_without_walls(self):
        found = run(field("field 8 8 walls"), least(1), least(4), least(36), least(64))[1:]
        self.assertEqual(found, [[1, 4, 1, 0, 0, 1, 1], [1, 8, 4, 0, 0, 2, 2], [1, 24, 36, 0, 0, 6, 6],
                                 [1, 32, 64, 0, 0, 8, 8]])

    def test_of_the_same_cost_the_most_cells(self):
        # 1 by 3 has 3 cells and costs 8 too, by fewer rows.
        self.assertEqual(last(field("field 8 8 walls"), least(3)), [1, 8, 4, 0, 0, 2, 2])
        self.assertEqual(last(field("field 8 8 walls"), least(7)), [1, 12, 9, 0, 0, 3, 3])
        self.assertEqual(last(field("field 4 6 walls right left"), least(16)), [1, 12, 24, 0, 0, 4, 6])

    def test_of_as_many_cells_and_the_same_cost_the_fewest_rows(self):
        self.assertEqual(last(field("field 8 8 walls"), least(2)), [1, 6, 2, 0, 0, 1, 2])
        self.assertEqual(last(field("field 8 8 walls"), least(5)), [1, 10, 6, 0, 0, 2, 3])
        self.assertEqual(last(field("field 8 8 walls right left"), least(4)), [1, 6, 4, 0, 0, 2, 2])

    def test_the_least_cost_goes_before_most_cells(self):
        self.assertEqual(last(field("field 4 6 walls right left"), least(9)), [1, 9, 9, 0, 0, 3, 3])

    def test_it_is_put_at_the_walls(self):
        self.assertEqual(last(field("field 8 8 walls right below"), least(6)), [1, 5, 6, 6, 5, 2, 3])
        self.assertEqual(last(field("field 8 8 walls below left"), least(6)), [1, 5, 6, 6, 0, 2, 3])
        self.assertEqual(last(field("field 8 8 walls above right"), least(6)), [1, 5, 6, 0, 5, 2, 3])
        self.assertEqual(last(field("field 8 8 walls above right below"), least(1)), [1, 2, 1, 0, 7, 1, 1])

    def test_no_hurdle_is_needed_where_all_is_walled(self):
        self.assertEqual(last(field("field 6 7 walls above right below left"), least(1)), [1, 0, 42, 0, 0, 6, 7])

    def test_fields_of_fewer_as_many_and_more_cells(self):
        self.assertEqual(run(least(1), least(2), least(64)), [[1, 4, 1, 0, 0, 1, 1], [0], [0]])
        found = run(field("field 2 5 walls"), least(9), least(10), least(11), least(64))[1:]
        self.assertEqual(found, [[1, 14, 10, 0, 0, 2, 5], [1, 14, 10, 0, 0, 2, 5], [0], [0]])
        self.assertEqual(last(field("field 8 7 walls"), least(57)), [0])

    def test_by_the_words_on_fields_of_many_sizes(self):
        for rows, columns in SIZES:
            for walls in every_walls():
                begin = field(field_text(rows, columns, walls))
                told = run(begin, *[rect(a, b) for a in range(1, rows + 1) for b in range(1, columns + 1)])[1:]
                found = run(begin, *[least(cells) for cells in range(1, 65)])[1:]
                for cells in range(1, 65):
                    self.assertEqual(found[cells - 1], self.cheapest(told, cells), (rows, columns, walls, cells))

    def cheapest(self, told, cells):
        chosen = None
        for needed, row, column, high, wide in told:
            better = (chosen is None or needed < chosen[1]
                      or (needed == chosen[1] and high * wide > chosen[2])
                      or (needed == chosen[1] and high * wide == chosen[2] and high < chosen[5]))
            if high * wide >= cells and better:
                chosen = [1, needed, high * wide, row, column, high, wide]
        return chosen or [0]

    def test_no_fold_of_so_many_cells_costs_less(self):
        for rows, columns in ((1, 1), (1, 6), (6, 1), (2, 4), (4, 2), (3, 3)):
            for walls in every_walls():
                cells = rows * columns
                costs = [(number.bit_count(), fold_cost(rows, columns, walls, number)) for number in range(2 ** cells)]
                found = run(field(field_text(rows, columns, walls)), *[least(n) for n in range(1, cells + 1)])[1:]
                for wanted in range(1, cells + 1):
                    self.assertEqual(found[wanted - 1][1], min(cost for count, cost in costs if count >= wanted))


class Curve(unittest.TestCase):
    def test_one_cell(self):
        self.assertEqual(last(curve()), [5, 0, 0, 0, 0, 1])
        self.assertEqual(last(field("field 1 1 walls above"), curve()), [5, 0, 0, 0, 1, 1])
        self.assertEqual(last(field("field 1 1 walls above right below left"), curve()), [5, 1, 1, 1, 1, 1])

    def test_small_fields(self):
        self.assertEqual(last(field("field 2 2 walls"), curve()), [9, 0, 0, 0, 0, 1, 1, 2, 2, 4])
        self.assertEqual(last(field("field 1 2 walls above"), curve()), [7, 0, 0, 0, 1, 2, 2, 2])
        self.assertEqual(last(field("field 2 1 walls above"), curve()), [7, 0, 0, 0, 1, 1, 2, 2])
        self.assertEqual(last(field("field 2 2 walls above right below left"), curve()), [9] + [4] * 9)

    def test_without_walls_on_the_largest_field(self):
        wanted = [max([a * b for a in range(1, 9) for b in range(1, 9) if 2 * a + 2 * b <= h], default=0)
                  for h in range(33)]
        self.assertEqual(last(field("field 8 8 walls"), curve()), [33] + wanted)
        self.assertEqual(wanted[3:9] + wanted[31:], [0, 1, 1, 2, 2, 4, 56, 64])

    def test_how_many_numbers_and_each_as_the_greatest_rectangle_has(self):
        for rows, columns in SIZES:
            for walls in every_walls():
                top = 2 * (rows + columns)
                found = run(field(field_text(rows, columns, walls)), curve(), *[best(h) for h in range(top + 1)])[1:]
                self.assertEqual(found[0], [top + 1] + [0 if one == [0] else one[1] for one in found[1:]])
                self.assertEqual(found[0][-1], rows * columns)

    def test_days_are_nothing_to_it(self):
        found = run(field("field 2 2 walls left"), curve(), least(2), day("fold 0 0 high 1 wide 1"), curve(), least(2),
                    undo(0), curve(), least(2))
        self.assertEqual(found[1:3], [[9, 0, 0, 0, 1, 2, 2, 4, 4, 4], [1, 4, 2, 0, 0, 2, 1]])
        self.assertEqual(found[1:3], found[4:6])
        self.assertEqual(found[1:3], found[7:9])


def most_cells_by_columns(rows, columns, walls):
    """For each number of hurdles how many cells a fold of any shape has at most, cell by cell.

    Only which of the last cells, one for each column, are in the fold tells what the next cell adds.
    """
    top = 2 * (rows + columns)
    none = [-1000] * (top + 1)
    states = {0: [0] * (top + 1)}
    for cell in range(rows * columns):
        row, column = divmod(cell, columns)
        bit = 1 << column
        onward = {}
        for state, most in states.items():
            for taken in (0, 1):
                above = bool(state & bit)
                needed = int(taken and "above" not in walls) if row == 0 else int(taken != above)
                left = bool(column and state & bit >> 1)
                needed += int(taken and "left" not in walls) if column == 0 else int(taken != left)
                needed += int(taken and column == columns - 1 and "right" not in walls)
                needed += int(taken and row == rows - 1 and "below" not in walls)
                then = none[:needed] + [count + taken for count in most[:top + 1 - needed]]
                key = state | bit if taken else state & ~bit
                onward[key] = list(map(max, onward[key], then)) if key in onward else then
        states = onward
    return [max(most[hurdles] for most in states.values()) for hurdles in range(top + 1)]


class PromiseOneForTheCurve(unittest.TestCase):
    """No fold has more cells by so many hurdles, nor as many by fewer."""

    def test_every_fold_of_small_fields(self):
        for rows, columns in ((1, 1), (1, 5), (5, 1), (2, 2), (2, 4), (4, 2), (3, 3)):
            for walls in every_walls():
                folds = [(number.bit_count(), fold_cost(rows, columns, walls, number))
                         for number in range(2 ** (rows * columns))]
                found = last(field(field_text(rows, columns, walls)), curve())[1:]
                self.assertEqual(found, [max(count for count, cost in folds if cost <= hurdles)
                                         for hurdles in range(2 * (rows + columns) + 1)])
                self.assertEqual(found, most_cells_by_columns(rows, columns, walls))

    def test_larger_fields(self):
        for rows, columns in ((1, 8), (8, 1), (8, 3), (3, 8), (5, 5), (4, 6), (7, 6), (8, 8)):
            for walls in every_walls():
                found = run_many(field(field_text(rows, columns, walls)), [curve(), *[best(h) for h in range(33)]])
                most = most_cells_by_columns(rows, columns, walls)
                self.assertEqual(found[0][1:], most, (rows, columns, walls))
                for hurdles in range(len(most)):
                    if most[hurdles] > 0:
                        needed = found[1 + hurdles][2]
                        self.assertEqual(most[needed], most[hurdles])
                        self.assertTrue(needed == 0 or most[needed - 1] < most[hurdles])


if __name__ == "__main__":
    unittest.main()
