"""Rectangles: what they cost, where they are put, and the greatest of so many hurdles."""

import unittest

from helper import best, cells_of, cost, every_walls, field, field_text, fold_cost, last, rect, run

SIZES = ((1, 1), (1, 2), (2, 1), (1, 8), (8, 1), (2, 3), (3, 3), (4, 7), (8, 5), (8, 8))


def cost_at(rows, columns, walls, row, column, high, wide):
    bits = 0
    for cell in cells_of(columns, row, column, high, wide):
        bits |= 1 << cell
    return fold_cost(rows, columns, walls, bits)


def least_anywhere(rows, columns, walls, high, wide):
    return min(cost_at(rows, columns, walls, row, column, high, wide)
               for row in range(rows - high + 1) for column in range(columns - wide + 1))


class Rect(unittest.TestCase):
    def test_without_walls(self):
        self.assertEqual(last(field("field 8 8 walls"), rect(2, 3)), [10, 0, 0, 2, 3])
        self.assertEqual(last(field("field 8 8 walls"), rect(8, 8)), [32, 0, 0, 8, 8])

    def test_all_rows_or_all_columns(self):
        opposite = field("field 4 6 walls right left")
        self.assertEqual(last(opposite, rect(2, 6)), [12, 0, 0, 2, 6])
        self.assertEqual(last(opposite, rect(2, 5)), [12, 0, 0, 2, 5])
        self.assertEqual(last(opposite, rect(4, 6)), [12, 0, 0, 4, 6])
        upright = field("field 4 6 walls above below")
        self.assertEqual(last(upright, rect(4, 2)), [8, 0, 0, 4, 2])
        self.assertEqual(last(upright, rect(3, 2)), [8, 0, 0, 3, 2])
        self.assertEqual(last(field("field 4 6 walls left"), rect(3, 6)), [15, 0, 0, 3, 6])
        self.assertEqual(last(field("field 4 6 walls above right below left"), rect(4, 6)), [0, 0, 0, 4, 6])

    def test_walled_below_and_not_above(self):
        self.assertEqual(last(field("field 5 4 walls below"), rect(2, 3)), [7, 3, 0, 2, 3])
        self.assertEqual(last(field("field 5 4 walls below"), rect(5, 3)), [13, 0, 0, 5, 3])
        self.assertEqual(last(field("field 5 4 walls above below"), rect(2, 3)), [7, 0, 0, 2, 3])
        self.assertEqual(last(field("field 5 4 walls above"), rect(2, 3)), [7, 0, 0, 2, 3])

    def test_walled_right_and_not_left(self):
        self.assertEqual(last(field("field 5 4 walls right"), rect(2, 3)), [8, 0, 1, 2, 3])
        self.assertEqual(last(field("field 5 4 walls right"), rect(2, 4)), [10, 0, 0, 2, 4])
        self.assertEqual(last(field("field 5 4 walls right left"), rect(2, 3)), [8, 0, 0, 2, 3])
        self.assertEqual(last(field("field 5 4 walls left"), rect(2, 3)), [8, 0, 0, 2, 3])

    def test_walled_right_and_below(self):
        self.assertEqual(last(field("field 8 8 walls right below"), rect(1, 1)), [2, 7, 7, 1, 1])

    def test_the_least_that_it_costs_anywhere_is_what_it_costs_where_it_is_put(self):
        for rows, columns in SIZES:
            for walls in every_walls():
                for high in range(1, rows + 1):
                    for wide in range(1, columns + 1):
                        self.compare(rows, columns, walls, high, wide)

    def compare(self, rows, columns, walls, high, wide):
        begin = field(field_text(rows, columns, walls))
        found = last(begin, rect(high, wide))
        row = rows - high if "below" in walls and "above" not in walls else 0
        column = columns - wide if "right" in walls and "left" not in walls else 0
        self.assertEqual(found[1:], [row, column, high, wide])
        there = cost_at(rows, columns, walls, row, column, high, wide)
        self.assertEqual(found[0], there)
        if rows * columns <= 28:
            self.assertEqual(found[0], least_anywhere(rows, columns, walls, high, wide))
        self.assertEqual(last(begin, cost(cells_of(columns, row, column, high, wide)))[0], there)


class Best(unittest.TestCase):
    def test_no_rectangle_costs_so_little(self):
        for hurdles in range(4):
            self.assertEqual(run(best(hurdles), field("field 8 8 walls"), best(hurdles))[::2], [[0], [0]])
        self.assertEqual(last(field("field 8 8 walls"), best(4)), [1, 1, 4, 0, 0, 1, 1])
        self.assertEqual(last(field("field 8 8 walls right below"), best(1)), [0])

    def test_no_hurdle_is_needed_where_all_is_walled(self):
        self.assertEqual(last(field("field 6 7 walls above right below left"), best(0)), [1, 42, 0, 0, 0, 6, 7])

    def test_as_many_hurdles_as_can_be_asked_for(self):
        self.assertEqual(last(field("field 8 8 walls"), best(100)), [1, 64, 32, 0, 0, 8, 8])
        self.assertEqual(last(best(100)), [1, 1, 4, 0, 0, 1, 1])

    def test_more_cells_go_before_the_least_cost(self):
        self.assertEqual(last(field("field 2 5 walls above"), best(4)), [1, 2, 4, 0, 0, 1, 2])
        self.assertEqual(last(field("field 2 5 walls above"), best(5)), [1, 3, 5, 0, 0, 1, 3])
        self.assertEqual(last(field("field 3 6 walls"), best(14)), [1, 12, 14, 0, 0, 3, 4])

    def test_of_as_many_cells_the_least_cost(self):
        # For 5 hurdles both rectangles of 2 cells can be had there; one of them costs 4.
        self.assertEqual(last(field("field 2 2 walls above"), best(5)), [1, 2, 4, 0, 0, 1, 2])
        self.assertEqual(last(field("field 2 2 walls left"), best(5)), [1, 2, 4, 0, 0, 2, 1])

    def test_of_as_many_cells_and_the_same_cost_the_fewest_rows(self):
        self.assertEqual(last(field("field 8 8 walls"), best(6)), [1, 2, 6, 0, 0, 1, 2])
        self.assertEqual(last(field("field 8 8 walls"), best(10)), [1, 6, 10, 0, 0, 2, 3])
        self.assertEqual(last(field("field 8 8 walls"), best(11)), [1, 6, 10, 0, 0, 2, 3])

    def test_it_is_put_at_the_walls(self):
        self.assertEqual(last(field("field 8 8 walls right below"), best(5)), [1, 6, 5, 6, 5, 2, 3])
        self.assertEqual(last(field("field 8 8 walls below left"), best(5)), [1, 6, 5, 6, 0, 2, 3])
        self.assertEqual(last(field("field 8 8 walls above right"), best(5)), [1, 6, 5, 0, 5, 2, 3])

    def test_by_the_words_on_fields_of_many_sizes(self):
        for rows, columns in SIZES:
            for walls in every_walls():
                begin = field(field_text(rows, columns, walls))
                asked = [(high, wide) for high in range(1, rows + 1) for wide in range(1, columns + 1)]
                told = run(begin, *[rect(high, wide) for high, wide in asked])[1:]
                found = run(begin, *[best(hurdles) for hurdles in range(60)])[1:]
                for hurdles in range(60):
                    self.assertEqual(found[hurdles], self.greatest(told, hurdles))

    def greatest(self, told, hurdles):
        chosen = None
        for rectangle in told:
            needed, row, column, high, wide = rectangle
            better = (chosen is None or high * wide > chosen[1]
                      or (high * wide == chosen[1] and needed < chosen[2])
                      or (high * wide == chosen[1] and needed == chosen[2] and high < chosen[5]))
            if needed <= hurdles and better:
                chosen = [1, high * wide, needed, row, column, high, wide]
        return chosen or [0]


class PromiseOne(unittest.TestCase):
    """No fold has more cells by so many hurdles, nor as many by fewer."""

    SMALL = ((1, 1), (1, 2), (1, 7), (7, 1), (2, 2), (2, 5), (5, 2), (3, 3), (3, 4), (4, 3))

    def test_every_fold_of_small_fields(self):
        for rows, columns in self.SMALL:
            for walls in every_walls():
                self.check(rows, columns, walls)

    def test_every_fold_of_a_square_of_sixteen_cells(self):
        for walls in ((), ("left",), ("above", "below"), ("right", "below"), ("above", "right", "left"),
                      ("above", "right", "below", "left")):
            self.check(4, 4, walls)

    def check(self, rows, columns, walls):
        most_cells, least_cost = self.best_of_every_fold(rows, columns, walls)
        top = len(most_cells)
        found = run(field(field_text(rows, columns, walls)), *[best(hurdles) for hurdles in range(top)])[1:]
        for hurdles in range(top):
            answer = found[hurdles]
            if answer == [0]:
                self.assertEqual(most_cells[hurdles], 0)
            else:
                self.assertEqual(answer[1], most_cells[hurdles])
                self.assertEqual(answer[2], least_cost[answer[1]])

    def best_of_every_fold(self, rows, columns, walls):
        cells = rows * columns
        least_cost = [4 * cells] * (cells + 1)
        for number in range(2 ** cells):
            count = number.bit_count()
            least_cost[count] = min(least_cost[count], fold_cost(rows, columns, walls, number))
        most_cells = [max(n for n in range(cells + 1) if least_cost[n] <= hurdles)
                      for hurdles in range(min(100, 4 * cells) + 1)]
        return most_cells, least_cost


if __name__ == "__main__":
    unittest.main()
