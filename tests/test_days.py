"""Days: what is carried from one to another, in a row and in an order, and which cells are folded."""

import unittest

from helper import (between, cells_of, covered, day, every_fold, every_walls, field, field_text, last, order, plan, run,
                    run_many, standing)

SOME_WALLS = ((), ("left",), ("above", "below"), ("right", "below"), ("above", "right", "left"),
              ("above", "right", "below", "left"))


def begun(rows, columns, walls, *days):
    return field(field_text(rows, columns, walls, days))


def many_days(rows, columns, seed, count):
    """Folds of all kinds, by counting through every fold in steps."""
    every = every_fold(rows, columns)
    return [every[(seed * 17 + turn * (7 + seed) + turn * turn) % len(every)] for turn in range(count)]


def carried_by_lines(rows, columns, walls, days):
    """What each day of the row carries, all of the first one."""
    places = [standing(rows, columns, walls, fold) for fold in days]
    return [len(needed - before) for before, needed in zip([set()] + places, places)]


class Between(unittest.TestCase):
    def test_folds_that_lie_apart(self):
        self.assertEqual(last(begun(1, 3, (), (0, 0, 1, 1), (0, 2, 1, 1)), between(0, 1)), [4, 0])
        self.assertEqual(last(begun(3, 1, (), (0, 0, 1, 1), (2, 0, 1, 1)), between(1, 0)), [4, 0])
        self.assertEqual(last(begun(8, 8, (), (0, 0, 2, 3), (4, 4, 1, 2)), between(0, 1)), [6, 0])

    def test_side_by_side_right_and_left(self):
        beside = begun(1, 2, (), (0, 0, 1, 1), (0, 1, 1, 1))
        self.assertEqual(run(beside, between(0, 1), between(1, 0))[1:], [[3, 1], [3, 1]])
        higher = begun(4, 4, (), (0, 0, 2, 2), (1, 2, 3, 1))
        self.assertEqual(run(higher, between(0, 1), between(1, 0))[1:], [[7, 1], [7, 1]])

    def test_side_by_side_above_and_below(self):
        beside = begun(2, 1, (), (0, 0, 1, 1), (1, 0, 1, 1))
        self.assertEqual(run(beside, between(0, 1), between(1, 0))[1:], [[3, 1], [3, 1]])
        wider = begun(3, 5, (), (0, 1, 1, 3), (1, 0, 2, 3))
        self.assertEqual(run(wider, between(0, 1), between(1, 0))[1:], [[8, 2], [6, 2]])

    def test_corners_share_no_place(self):
        self.assertEqual(last(begun(2, 2, (), (0, 0, 1, 1), (1, 1, 1, 1)), between(0, 1)), [4, 0])

    def test_a_rows_end_and_the_next_ones_beginning_share_no_place(self):
        self.assertEqual(last(begun(2, 2, (), (0, 1, 1, 1), (1, 0, 1, 1)), between(0, 1)), [4, 0])
        self.assertEqual(last(begun(2, 3, (), (0, 2, 1, 1), (1, 0, 1, 1)), between(1, 0)), [4, 0])

    def test_folds_that_share_sides(self):
        within = begun(3, 3, (), (0, 0, 2, 2), (0, 0, 1, 1))
        self.assertEqual(run(within, between(0, 1), between(1, 0))[1:], [[2, 2], [6, 2]])
        across = begun(3, 3, (), (0, 0, 3, 2), (0, 1, 3, 2))
        self.assertEqual(run(across, between(0, 1), between(1, 0))[1:], [[8, 2], [8, 2]])

    def test_the_same_fold(self):
        same = begun(4, 4, (), (1, 1, 2, 3), (1, 1, 2, 3))
        self.assertEqual(run(same, between(0, 1), between(1, 0), between(0, 0), between(1, 1))[1:], [[0, 10]] * 4)

    def test_hurdles_at_the_edges(self):
        shifted = ((0, 0, 1, 2), (0, 1, 1, 2))
        self.assertEqual(last(begun(1, 3, (), *shifted), between(0, 1)), [4, 2])
        self.assertEqual(last(begun(1, 3, ("left",), *shifted), between(0, 1)), [4, 2])
        self.assertEqual(last(begun(1, 3, ("right",), *shifted), between(0, 1)), [3, 2])
        self.assertEqual(last(begun(1, 3, ("above",), *shifted), between(0, 1)), [3, 1])
        self.assertEqual(last(begun(1, 3, ("above", "below"), *shifted), between(0, 1)), [2, 0])
        self.assertEqual(last(begun(1, 3, ("above", "right", "below", "left"), *shifted), between(0, 1)), [1, 0])

    def test_it_is_from_the_first_to_the_second(self):
        found = run(begun(2, 4, ("left",), (0, 0, 1, 1), (0, 0, 2, 4)), between(0, 1), between(1, 0))[1:]
        self.assertEqual(found, [[9, 1], [2, 1]])

    def test_twenty_days(self):
        days = many_days(8, 8, 3, 20)
        found = run(begun(8, 8, ("below",), *days), between(19, 0), between(0, 19), between(19, 19), between(0, 0))[1:]
        first = standing(8, 8, ("below",), days[0])
        end = standing(8, 8, ("below",), days[19])
        self.assertEqual(found, [[len(first - end), len(first & end)], [len(end - first), len(end & first)],
                                 [0, len(end)], [0, len(first)]])

    def test_every_two_folds_of_small_fields(self):
        for rows, columns in ((1, 3), (3, 1), (2, 2), (2, 3), (3, 2)):
            for walls in every_walls():
                places = {fold: standing(rows, columns, walls, fold) for fold in every_fold(rows, columns)}
                for one in places:
                    self.compare_with_one(rows, columns, walls, places, one)

    def compare_with_one(self, rows, columns, walls, places, one):
        others = list(places)
        for start in range(0, len(others), 19):
            some = others[start:start + 19]
            begin = begun(rows, columns, walls, one, *some)
            asked = [between(0, turn + 1) for turn in range(len(some))]
            wanted = [[len(places[other] - places[one]), len(places[other] & places[one])] for other in some]
            self.assertEqual(run_many(begin, asked), wanted, (rows, columns, walls, one))


class Plan(unittest.TestCase):
    def test_no_days(self):
        self.assertEqual(last(plan()), [0])
        self.assertEqual(last(field("field 8 8 walls"), plan()), [0])

    def test_one_day(self):
        self.assertEqual(last(begun(3, 4, (), (0, 0, 2, 3)), plan()), [1, 6, 10, 10])
        self.assertEqual(last(begun(3, 4, ("above", "left"), (0, 0, 2, 3)), plan()), [1, 6, 5, 5])
        self.assertEqual(last(begun(3, 4, ("above", "right", "below", "left"), (0, 0, 3, 4)), plan()), [1, 12, 0, 0])

    def test_from_the_day_before(self):
        days = ((0, 0, 1, 1), (0, 1, 1, 1), (0, 0, 1, 1), (0, 0, 1, 1), (1, 1, 1, 1))
        self.assertEqual(last(begun(2, 2, (), *days), plan()), [5, 1, 4, 4, 1, 4, 3, 1, 4, 3, 1, 4, 0, 1, 4, 4])
        self.assertEqual(last(begun(2, 2, ("above",), *days), plan()),
                         [5, 1, 3, 3, 1, 3, 2, 1, 3, 2, 1, 3, 0, 1, 4, 4])

    def test_strips_of_a_field_one_behind_another(self):
        strips = [(0, column, 4, 1) for column in range(4)]
        self.assertEqual(last(begun(4, 4, (), *strips), plan()), [4, 4, 10, 10, 4, 10, 6, 4, 10, 6, 4, 10, 6])
        upright = [(row, 0, 1, 4) for row in range(4)]
        self.assertEqual(last(begun(4, 4, ("left", "below"), *upright), plan()),
                         [4, 4, 9, 9, 4, 9, 5, 4, 9, 5, 4, 5, 1])

    def test_twenty_days(self):
        for walls in SOME_WALLS:
            days = many_days(8, 8, 5, 20)
            self.compare(8, 8, walls, days)
            self.compare(8, 8, walls, [(0, 0, 8, 8)] * 20)

    def test_rows_of_days_by_lines(self):
        for rows, columns in ((1, 1), (1, 5), (5, 1), (3, 3), (4, 6), (8, 8)):
            for walls in every_walls():
                for seed in range(4):
                    self.compare(rows, columns, walls, many_days(rows, columns, seed, 2 + 5 * seed))

    def compare(self, rows, columns, walls, days):
        wanted = [len(days)]
        for fold, moved in zip(days, carried_by_lines(rows, columns, walls, days)):
            wanted += [fold[2] * fold[3], len(standing(rows, columns, walls, fold)), moved]
        self.assertEqual(last(begun(rows, columns, walls, *days), plan()), wanted)


class Covered(unittest.TestCase):
    def test_no_days(self):
        self.assertEqual(last(covered()), [0, 0, 0])
        self.assertEqual(last(field("field 8 8 walls above right below left"), covered()), [0, 0, 0])

    def test_each_cell_once(self):
        self.assertEqual(last(begun(1, 1, (), (0, 0, 1, 1)), covered()), [1])
        self.assertEqual(last(begun(8, 8, (), (0, 0, 8, 8)), covered()), [1])
        self.assertEqual(last(begun(2, 2, (), (1, 0, 1, 2), (0, 0, 1, 2)), covered()), [1])
        self.assertEqual(last(begun(3, 3, ("left",), (0, 0, 1, 2), (0, 2, 2, 1), (2, 1, 1, 2), (1, 0, 2, 1),
                                    (1, 1, 1, 1)), covered()), [1])
        self.assertEqual(last(begun(4, 5, (), *[(n // 5, n % 5, 1, 1) for n in range(20)]), covered()), [1])

    def test_the_first_cell_that_is_in_none(self):
        self.assertEqual(last(begun(2, 3, (), (0, 0, 2, 2)), covered()), [0, 2, 0])
        self.assertEqual(last(begun(2, 3, (), (0, 0, 1, 3), (1, 0, 1, 2)), covered()), [0, 5, 0])
        self.assertEqual(last(begun(8, 8, (), (0, 0, 8, 7), (0, 7, 7, 1)), covered()), [0, 63, 0])

    def test_the_first_cell_that_is_in_several(self):
        self.assertEqual(last(begun(2, 3, (), (0, 0, 2, 3), (1, 1, 1, 1)), covered()), [0, 4, 2])
        self.assertEqual(last(begun(2, 2, (), (0, 0, 2, 2), (1, 1, 1, 1), (0, 1, 2, 1)), covered()), [0, 1, 2])
        self.assertEqual(last(begun(1, 1, (), *[(0, 0, 1, 1)] * 3), covered()), [0, 0, 3])
        self.assertEqual(last(begun(8, 8, (), *[(0, 0, 8, 8)] * 20), covered()), [0, 0, 20])

    def test_the_first_of_both_kinds(self):
        self.assertEqual(last(begun(1, 4, (), (0, 0, 1, 2), (0, 1, 1, 1)), covered()), [0, 1, 2])
        self.assertEqual(last(begun(1, 4, (), (0, 0, 1, 1), (0, 2, 1, 2), (0, 3, 1, 1)), covered()), [0, 1, 0])

    def test_many_days_by_counting(self):
        for rows, columns in ((1, 4), (3, 3), (5, 2), (8, 8)):
            for seed in range(8):
                days = many_days(rows, columns, seed, 1 + 2 * seed)
                folded = [cell for fold in days for cell in cells_of(columns, *fold)]
                wrong = [cell for cell in range(rows * columns) if folded.count(cell) != 1]
                wanted = [0, wrong[0], folded.count(wrong[0])] if wrong else [1]
                self.assertEqual(last(begun(rows, columns, (), *days), covered()), wanted)


class Order(unittest.TestCase):
    def test_without_days(self):
        self.assertEqual(last(order([])), [0, 0])
        self.assertEqual(last(field("field 8 8 walls"), order([])), [0, 0])

    def test_one_day(self):
        self.assertEqual(last(begun(3, 3, ("above",), (0, 0, 2, 2)), order([0])), [6, 6])

    def test_what_is_carried_and_the_most_that_a_day_needs(self):
        begin = begun(1, 4, (), (0, 0, 1, 1), (0, 2, 1, 1), (0, 1, 1, 1), (0, 0, 1, 4))
        self.assertEqual(last(begin, order([0, 1, 2, 3])), [4 + 4 + 3 + 8, 10])
        self.assertEqual(last(begin, order([0, 2, 1, 3])), [4 + 3 + 3 + 8, 10])
        self.assertEqual(last(begin, order([3, 0, 2, 1])), [10 + 1 + 3 + 3, 10])
        self.assertEqual(last(begin, order([3, 1, 2, 0])), [10 + 2 + 3 + 3, 10])

    def test_folds_that_are_the_same(self):
        begin = begun(2, 2, (), *[(0, 0, 2, 1)] * 3)
        self.assertEqual(last(begin, order([2, 0, 1])), [6, 6])

    def test_no_hurdles_are_needed(self):
        begin = begun(2, 2, ("above", "right", "below", "left"), *[(0, 0, 2, 2)] * 2)
        self.assertEqual(last(begin, order([1, 0])), [0, 0])

    def test_twenty_days(self):
        for walls in SOME_WALLS:
            days = many_days(8, 8, 2, 20)
            begin = begun(8, 8, walls, *days)
            most = max(len(standing(8, 8, walls, fold)) for fold in days)
            for step in (1, 3, 7, 9, 11, 19):
                row = [turn * step % 20 for turn in range(20)]
                moved = carried_by_lines(8, 8, walls, [days[n] for n in row])
                self.assertEqual(last(begin, order(row)), [sum(moved), most])

    def test_more_than_seven_days_are_allowed(self):
        self.assertEqual(last(begun(1, 1, (), *[(0, 0, 1, 1)] * 8), order(list(range(8)))), [4, 4])

    def test_the_days_in_their_order_carry_what_the_plan_tells(self):
        begin = begun(5, 5, ("right",), *many_days(5, 5, 6, 11))
        found = run(begin, plan(), order(list(range(11))))
        self.assertEqual(found[2], [sum(found[1][3::3]), max(found[1][2::3])])

    def test_lists_that_are_no_order(self):
        begin = begun(2, 2, (), (0, 0, 1, 1), (0, 1, 1, 1), (1, 0, 1, 2))
        for wrong in ([], [0], [0, 1], [0, 1, 2, 0], [0, 1, 2, 3], [0, 0, 1], [2, 2, 2], [0, 1, 3], [1, 2, 3],
                      [-1, 0, 1], [0, -1, 2], [0, 1, -9223372036854775808], [0, 1, 9223372036854775807],
                      [9223372036854775807] * 3, list(range(20)), [0] * 2000):
            self.assertEqual(last(begin, order(wrong)), [-4], wrong)
        self.assertEqual(run(order([0]), order([-1]), day("fold 0 0 high 1 wide 1"), order([]), order([0]), order([1])),
                         [[-4], [-4], [1], [-4], [4, 4], [-4]])


if __name__ == "__main__":
    unittest.main()
