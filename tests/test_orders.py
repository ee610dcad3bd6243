"""The best order of the days and the table over sets of days, against every order."""

import itertools
import unittest

from helper import (between, bestorder, day, every_fold, every_walls, field, field_text, fewest, labels, last, order, plan,
                    run, run_many, standing, text, undo)

ALL_WALLS = ("above", "right", "below", "left")
SOME_WALLS = ((), ("left",), ("above", "below"), ("right", "below"), ALL_WALLS)


def begun(rows, columns, walls, *days):
    return field(field_text(rows, columns, walls, days))


def some_days(rows, columns, seed, count):
    every = every_fold(rows, columns)
    return [every[(seed * 13 + turn * (5 + seed) + turn * turn * 3) % len(every)] for turn in range(count)]


class ByEveryOrder:
    """What the days carry, by going through every order of every set of them."""

    def __init__(self, rows, columns, walls, days):
        self.places = [standing(rows, columns, walls, fold) for fold in days]
        self.moved = [[len(needed - before) for needed in self.places] for before in self.places]
        self.days = range(len(days))

    def carried(self, row):
        if not row:
            return 0
        return len(self.places[row[0]]) + sum(self.moved[one][then] for one, then in zip(row, row[1:]))

    def best(self):
        return list(min(itertools.permutations(self.days), key=lambda row: (self.carried(row), row[::-1])))

    def fewest(self):
        return min(self.carried(row) for row in itertools.permutations(self.days))

    def table(self):
        found = []
        for number in range(2 ** len(self.days)):
            inside = [one for one in self.days if number >> one & 1]
            least = [-1 for one in self.days]
            for row in itertools.permutations(inside):
                if row:
                    carried = self.carried(row)
                    if least[row[-1]] == -1 or carried < least[row[-1]]:
                        least[row[-1]] = carried
            found += least
        return found


class FewDays(unittest.TestCase):
    def test_no_days(self):
        self.assertEqual(run(fewest(), bestorder(), labels()), [[0], [0], [0]])
        self.assertEqual(run(field("field 8 8 walls"), fewest(), bestorder(), labels())[1:], [[0], [0], [0]])

    def test_one_day(self):
        found = run(begun(3, 3, ("left",), (0, 0, 2, 2)), fewest(), bestorder(), labels())[1:]
        self.assertEqual(found, [[6], [1, 0], [2, -1, 6]])
        found = run(begun(2, 2, ALL_WALLS, (0, 0, 2, 2)), fewest(), bestorder(), labels())[1:]
        self.assertEqual(found, [[0], [1, 0], [2, -1, 0]])

    def test_two_days(self):
        # From the one cell to the whole row 10 are carried, from the row to the cell 2.
        found = run(begun(1, 5, (), (0, 1, 1, 1), (0, 0, 1, 5)), fewest(), bestorder(), labels(), order([0, 1]),
                    order([1, 0]))[1:]
        self.assertEqual(found, [[14], [2, 1, 0], [8, -1, -1, 4, -1, -1, 12, 14, 14], [14, 12], [14, 12]])

    def test_two_days_carry_the_same_in_both_orders(self):
        for walls in every_walls():
            for one in every_fold(2, 2):
                for other in every_fold(2, 2):
                    both = ByEveryOrder(2, 2, walls, [one, other])
                    found = run(begun(2, 2, walls, one, other), fewest(), bestorder(), labels())[1:]
                    self.assertEqual(found, [[both.carried((0, 1))], [2, 1, 0], [8] + both.table()])

    def test_three_days_in_a_row_of_cells(self):
        begin = begun(1, 3, (), (0, 0, 1, 1), (0, 2, 1, 1), (0, 1, 1, 1))
        self.assertEqual(run(begin, fewest(), bestorder())[1:], [[10], [3, 1, 2, 0]])
        self.assertEqual(last(begin, labels()), [24, -1, -1, -1, 4, -1, -1, -1, 4, -1, 8, 8, -1, -1, -1, 4, 7, -1, 7,
                                                 -1, 7, 7, 10, 10, 11])

    def test_strips_that_are_told_out_of_their_order(self):
        begin = begun(4, 5, (), *[(0, column, 4, 1) for column in (2, 0, 4, 1, 3)])
        self.assertEqual(run(begin, fewest(), bestorder())[1:], [[10 + 4 * 6], [5, 2, 4, 0, 3, 1]])


class Ties(unittest.TestCase):
    def test_the_same_fold_each_day(self):
        for count in range(1, 8):
            begin = begun(2, 2, (), *[(0, 0, 1, 2)] * count)
            self.assertEqual(run(begin, fewest(), bestorder())[1:], [[6], [count] + list(range(count))[::-1]])

    def test_folds_that_lie_apart(self):
        cells = [(row, column, 1, 1) for row in (0, 2, 4) for column in (0, 2)]
        begin = begun(5, 3, (), *cells)
        self.assertEqual(run(begin, fewest(), bestorder())[1:], [[24], [6, 5, 4, 3, 2, 1, 0]])

    def test_the_last_day_goes_before_the_one_before_it(self):
        # Days 0 and 1 are one fold, 2 and 3 another one apart from it: a day's like stands beside it.
        begin = begun(3, 3, (), (0, 0, 1, 1), (0, 0, 1, 1), (2, 2, 1, 1), (2, 2, 1, 1))
        self.assertEqual(run(begin, fewest(), bestorder())[1:], [[8], [4, 3, 2, 1, 0]])
        begin = begun(3, 3, (), (0, 0, 1, 1), (2, 2, 1, 1), (0, 0, 1, 1), (2, 2, 1, 1))
        self.assertEqual(run(begin, fewest(), bestorder())[1:], [[8], [4, 3, 1, 2, 0]])

    def test_an_order_and_the_same_backward(self):
        begin = begun(1, 3, (), (0, 0, 1, 1), (0, 1, 1, 1), (0, 2, 1, 1))
        found = run(begin, bestorder(), order([0, 1, 2]), order([2, 1, 0]))[1:]
        self.assertEqual(found, [[3, 2, 1, 0], [10, 4], [10, 4]])

    def test_many_orders_that_carry_the_same(self):
        for walls in every_walls():
            days = [(0, 0, 1, 1), (1, 1, 1, 1), (0, 1, 1, 1), (1, 0, 1, 1), (0, 0, 2, 2)]
            self.assertEqual(last(begun(2, 2, walls, *days), bestorder())[1:], ByEveryOrder(2, 2, walls, days).best())


class EveryOrder(unittest.TestCase):
    """Promise 3: no order carries fewer hurdles than the best one."""

    def test_up_to_five_days_on_fields_of_many_sizes(self):
        for rows, columns in ((1, 1), (1, 6), (6, 1), (2, 2), (3, 4), (8, 8)):
            for walls in every_walls():
                for count in range(6):
                    self.compare(rows, columns, walls, some_days(rows, columns, count, count))

    def test_six_and_seven_days(self):
        for rows, columns, seed in ((3, 3, 1), (8, 8, 2), (2, 7, 4)):
            for walls in SOME_WALLS:
                self.compare(rows, columns, walls, some_days(rows, columns, seed, 6))
                self.compare(rows, columns, walls, some_days(rows, columns, seed + 1, 7))

    def compare(self, rows, columns, walls, days):
        wanted = ByEveryOrder(rows, columns, walls, days)
        found = run(begun(rows, columns, walls, *days), fewest(), bestorder(), labels())[1:]
        self.assertEqual(found[0], [wanted.fewest()])
        self.assertEqual(found[1], [len(days)] + wanted.best())
        self.assertEqual(found[2], [len(days) * 2 ** len(days)] + wanted.table())

    def test_no_order_that_is_asked_for_carries_fewer(self):
        for walls in SOME_WALLS:
            begin = begun(4, 4, walls, *some_days(4, 4, 3, 5))
            least, chosen = run(begin, fewest(), bestorder())[1:]
            rows = list(itertools.permutations(range(5)))
            moved = [answer[0] for answer in run_many(begin, [order(row) for row in rows])]
            self.assertEqual(min(moved), least[0])
            self.assertEqual(last(begin, order(chosen[1:]))[0], least[0])
            self.assertEqual(min((total, row[::-1]) for total, row in zip(moved, rows))[1][::-1], tuple(chosen[1:]))


class Labels(unittest.TestCase):
    def test_how_many_numbers_the_table_has(self):
        for count in range(8):
            found = last(begun(1, 1, (), *[(0, 0, 1, 1)] * count), labels())
            self.assertEqual(found[0], count * 2 ** count)
            self.assertEqual(len(found), 1 + count * 2 ** count)

    def test_none_where_the_day_is_not_in_the_set(self):
        table = last(begun(3, 3, ("above",), *some_days(3, 3, 4, 7)), labels())[1:]
        for number in range(128):
            for one in range(7):
                self.assertEqual(table[number * 7 + one] == -1, not number >> one & 1)

    def test_set_by_set_and_day_by_day(self):
        days = some_days(6, 6, 2, 4)
        begin = begun(6, 6, ("right",), *days)
        table = last(begin, labels())[1:]
        for number in range(16):
            inside = [one for one in range(4) if number >> one & 1]
            for end in inside:
                alone = begun(6, 6, ("right",), *[days[one] for one in inside])
                rows = [row for row in itertools.permutations(range(len(inside))) if row[-1] == inside.index(end)]
                moved = [answer[0] for answer in run_many(alone, [order(row) for row in rows])]
                self.assertEqual(table[number * 4 + end], min(moved))

    def test_sets_of_one_and_two_days_as_plan_and_between_tell(self):
        begin = begun(5, 6, ("below",), *some_days(5, 6, 1, 7))
        needed = last(begin, plan())[2::3]
        table = last(begin, labels())[1:]
        for one in range(7):
            self.assertEqual(table[2 ** one * 7 + one], needed[one])
            for then in range(7):
                if one != then:
                    moved = last(begin, between(one, then))[0]
                    self.assertEqual(table[(2 ** one + 2 ** then) * 7 + then], needed[one] + moved)


class ManyTimes(unittest.TestCase):
    DAYS = some_days(8, 8, 6, 7)

    def test_seven_days_asked_many_times_in_one_list(self):
        wanted = ByEveryOrder(8, 8, ("left",), self.DAYS)
        once = [[wanted.fewest()], [7] + wanted.best(), [896] + wanted.table()]
        found = run(begun(8, 8, ("left",), *self.DAYS), *[fewest(), bestorder(), labels()] * 33)
        self.assertEqual(found[1:], once * 33)

    def test_the_days_that_there_are_then(self):
        found = run(begun(8, 8, (), *self.DAYS), labels(), undo(3), labels(), bestorder(), day("fold 0 0 high 1 wide 1"),
                    labels(), fewest(), bestorder())
        three = ByEveryOrder(8, 8, (), self.DAYS[:3])
        four = ByEveryOrder(8, 8, (), self.DAYS[:3] + [(0, 0, 1, 1)])
        self.assertEqual(found[3:5], [[24] + three.table(), [3] + three.best()])
        self.assertEqual(found[6:], [[64] + four.table(), [four.fewest()], [4] + four.best()])


class TooManyDays(unittest.TestCase):
    def test_eight_to_twenty_days(self):
        for count in range(8, 21):
            begin = begun(2, 2, ("left",), *[(0, 0, 1, 1)] * count)
            found = run(begin, text(), fewest(), bestorder(), labels(), text(), plan())
            self.assertEqual(found[2:5], [[-9], [-9], [-9]])
            self.assertEqual(found[5], found[1])
            self.assertEqual(found[6][0], count)

    def test_behind_an_undo_and_a_day(self):
        begin = begun(1, 1, (), *[(0, 0, 1, 1)] * 8)
        found = run(begin, fewest(), undo(7), fewest(), bestorder(), day("fold 0 0 high 1 wide 1"), fewest(), bestorder(),
                    labels())
        self.assertEqual(found[1:], [[-9], [7], [4], [7, 6, 5, 4, 3, 2, 1, 0], [8], [-9], [-9], [-9]])


if __name__ == "__main__":
    unittest.main()
