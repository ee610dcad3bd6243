"""The rounded rectangle of a fold."""

import unittest

from helper import (cells_numbered, cost, every_walls, field, field_text, fold_cost, last, rect, rounded, run,
                    run_many)


def rounded_by_words(rows, columns, walls, cells):
    """How many rows and columns the rounded rectangle has, by sets of cells."""
    inside = set(cells)
    lines = [{row * columns + column for column in range(columns)} for row in range(rows)]
    upright = [{row * columns + column for row in range(rows)} for column in range(columns)]
    if {"right", "left"} <= set(walls) and any(line <= inside for line in lines):
        return rows, columns
    if {"above", "below"} <= set(walls) and any(line <= inside for line in upright):
        return rows, columns
    return sum(bool(line & inside) for line in lines), sum(bool(line & inside) for line in upright)


class Rounded(unittest.TestCase):
    def test_a_fold_of_no_cells(self):
        self.assertEqual(last(rounded([])), [0, 0, 0])
        for rows, columns in ((1, 1), (1, 8), (8, 1), (3, 4), (8, 8)):
            for walls in every_walls():
                self.assertEqual(last(field(field_text(rows, columns, walls)), rounded([])), [0, 0, 0])

    def test_one_cell(self):
        self.assertEqual(last(rounded([0])), [1, 1, 4])
        self.assertEqual(last(field("field 4 5 walls"), rounded([13])), [1, 1, 4])
        self.assertEqual(last(field("field 4 5 walls above left"), rounded([13])), [1, 1, 2])

    def test_rows_and_columns_that_lie_apart_are_counted(self):
        self.assertEqual(last(field("field 4 5 walls"), rounded([0, 13])), [2, 2, 8])
        self.assertEqual(last(field("field 4 5 walls"), rounded([0, 2, 4, 15])), [2, 3, 10])
        self.assertEqual(last(field("field 4 5 walls"), rounded([0, 4])), [1, 2, 6])
        self.assertEqual(last(field("field 4 5 walls"), rounded([1, 16])), [2, 1, 6])
        self.assertEqual(last(field("field 8 8 walls"), rounded([0, 18, 36, 54])), [4, 4, 16])

    def test_folds_of_other_shapes(self):
        self.assertEqual(last(field("field 4 5 walls"), rounded([0, 5, 10, 11])), [3, 2, 10])
        self.assertEqual(last(field("field 3 3 walls"), rounded([0, 1, 2, 3, 5, 6, 7, 8])), [3, 3, 12])
        self.assertEqual(last(field("field 3 3 walls left"), rounded([1, 3, 4, 5, 7])), [3, 3, 9])

    def test_all_rows_or_columns_have_some_cell_without_a_full_one(self):
        self.assertEqual(last(field("field 2 2 walls right left"), rounded([0, 3])), [2, 2, 4])
        self.assertEqual(last(field("field 3 4 walls right left"), rounded([4, 5, 6, 11])), [2, 4, 8])
        self.assertEqual(last(field("field 3 4 walls above below"), rounded([0, 4, 9])), [3, 2, 6])

    def test_a_full_row(self):
        row = rounded([4, 5, 6, 7])
        self.assertEqual(last(field("field 3 4 walls right left"), row), [3, 4, 8])
        self.assertEqual(last(field("field 3 4 walls right"), row), [1, 4, 9])
        self.assertEqual(last(field("field 3 4 walls left"), row), [1, 4, 9])
        self.assertEqual(last(field("field 3 4 walls"), row), [1, 4, 10])
        self.assertEqual(last(field("field 3 4 walls above below"), row), [1, 4, 6])
        self.assertEqual(last(field("field 3 4 walls above right below left"), row), [3, 4, 0])
        self.assertEqual(last(field("field 3 4 walls right left"), rounded([4, 5, 6])), [1, 3, 7])

    def test_a_full_column(self):
        column = rounded([1, 5, 9])
        self.assertEqual(last(field("field 3 4 walls above below"), column), [3, 4, 6])
        self.assertEqual(last(field("field 3 4 walls above"), column), [3, 1, 7])
        self.assertEqual(last(field("field 3 4 walls below"), column), [3, 1, 7])
        self.assertEqual(last(field("field 3 4 walls"), column), [3, 1, 8])
        self.assertEqual(last(field("field 3 4 walls right left"), column), [3, 1, 5])
        self.assertEqual(last(field("field 3 4 walls above right below left"), column), [3, 4, 0])
        self.assertEqual(last(field("field 3 4 walls above below"), rounded([1, 5])), [2, 1, 5])

    def test_any_full_row_or_column_of_the_field(self):
        for row in range(8):
            full = [row * 7 + column for column in range(7)]
            self.assertEqual(last(field("field 8 7 walls right left"), rounded(full)), [8, 7, 14])
            self.assertEqual(last(field("field 8 7 walls right left"), rounded(full[1:])), [1, 6, 13])
        for column in range(7):
            full = [row * 7 + column for row in range(8)]
            self.assertEqual(last(field("field 8 7 walls above below"), rounded(full)), [8, 7, 16])
            self.assertEqual(last(field("field 8 7 walls above below"), rounded(full[:-1])), [7, 1, 15])

    def test_a_field_of_one_row(self):
        self.assertEqual(last(field("field 1 5 walls above below"), rounded([2])), [1, 5, 2])
        self.assertEqual(last(field("field 1 5 walls right left"), rounded([2])), [1, 1, 3])
        self.assertEqual(last(field("field 1 5 walls right left"), rounded([0, 1, 2, 3, 4])), [1, 5, 10])
        self.assertEqual(last(field("field 1 5 walls above"), rounded([0, 4])), [1, 2, 4])

    def test_a_field_of_one_column(self):
        self.assertEqual(last(field("field 5 1 walls right left"), rounded([2])), [5, 1, 2])
        self.assertEqual(last(field("field 5 1 walls above below"), rounded([2])), [1, 1, 3])
        self.assertEqual(last(field("field 5 1 walls above below"), rounded([0, 1, 2, 3, 4])), [5, 1, 10])
        self.assertEqual(last(field("field 5 1 walls left"), rounded([0, 4])), [2, 1, 4])

    def test_it_costs_what_such_a_rectangle_costs(self):
        for walls in every_walls():
            begin = field(field_text(8, 8, walls))
            for step in (1, 2, 3, 5, 7, 9, 27, 63):
                found = last(begin, rounded(list(range(0, 64, step))))
                self.assertEqual(found[2], last(begin, rect(found[0], found[1]))[0])


class PromiseTwo(unittest.TestCase):
    """It costs no more than its fold and has as many cells at least."""

    SMALL = ((1, 1), (1, 2), (2, 1), (1, 6), (6, 1), (2, 2), (2, 4), (4, 2), (3, 3), (2, 5), (4, 3))

    def test_every_fold_of_small_fields(self):
        for rows, columns in self.SMALL:
            folds = [cells_numbered(rows * columns, number) for number in range(2 ** (rows * columns))]
            for walls in every_walls():
                begin = field(field_text(rows, columns, walls))
                asked = [(high, wide) for high in range(1, rows + 1) for wide in range(1, columns + 1)]
                costs = dict(zip(asked, [told[0] for told in run_many(begin, [rect(*one) for one in asked])]))
                found = run_many(begin, [rounded(cells) for cells in folds])
                for number, cells in enumerate(folds):
                    high, wide, needed = found[number]
                    self.assertEqual((high, wide), rounded_by_words(rows, columns, walls, cells))
                    self.assertEqual(needed, costs.get((high, wide), 0))
                    self.assertGreaterEqual(high * wide, len(cells))
                    self.assertLessEqual(needed, fold_cost(rows, columns, walls, number))

    def test_folds_of_the_largest_field(self):
        for walls in every_walls():
            folds = [[c for c in range(64) if (c * c + c // 8 * turn) % 13 < turn] for turn in range(14)]
            folds += [sorted(set(fold) | set(range(24, 32))) for fold in folds]
            folds += [sorted(set(fold) | set(range(5, 64, 8))) for fold in folds[:14]]
            found = run(field(field_text(8, 8, walls)), *[rounded(cells) for cells in folds],
                        *[cost(cells) for cells in folds])[1:]
            for cells, told, asked in zip(folds, found, found[len(folds):]):
                self.assertEqual(tuple(told[:2]), rounded_by_words(8, 8, walls, cells))
                self.assertGreaterEqual(told[0] * told[1], len(cells))
                self.assertLessEqual(told[2], asked[0])


if __name__ == "__main__":
    unittest.main()
