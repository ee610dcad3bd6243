"""Wrong inputs: each refusal of each call, their order, and that they change nothing."""

import unittest

from helper import (LEAST, MOST, best, bestorder, between, cost, day, fewest, field, field_text, labels, least, order, plan,
                    raw, rect, rounded, run, sides, told, text, undo)

BEGIN = field_text(3, 4, ("right", "below"), [(0, 0, 1, 1), (1, 1, 2, 3)])
EXTREMES = (LEAST, LEAST + 1, -2 ** 31, -1000, 2 ** 31, 2 ** 32, 2 ** 63 - 2, MOST)


class Refusals(unittest.TestCase):
    def refused(self, call, answer):
        """The refusal is its number alone, and all is as before."""
        found = run(field(BEGIN), text(), call, text(), told())
        self.assertEqual(found[2], [answer], call)
        self.assertEqual(found[3], found[1])
        self.assertEqual(found[4], [3, 4, 0, 1, 1, 0, 2])

    def test_undo_out_of_range(self):
        for n in (-1, 21) + EXTREMES:
            self.refused(undo(n), -3)

    def test_undo_of_more_days_than_there_are(self):
        for n in (3, 4, 19, 20):
            self.refused(undo(n), -5)
        self.assertEqual(run(undo(1), undo(20), undo(0)), [[-5], [-5], [0]])

    def test_cells_that_there_are_not(self):
        for asked in (cost, sides, rounded):
            for cell in (-1, 12, 13, 63, 64) + EXTREMES:
                self.refused(asked([cell]), -4)
            for cells in ([0, 12], [-1, 0], [0, 1, MOST], [LEAST, 5]):
                self.refused(asked(cells), -4)

    def test_cells_that_do_not_rise(self):
        for asked in (cost, sides, rounded):
            for cells in ([1, 0], [0, 0], [0, 1, 1], [11, 11], [0, 2, 1, 3], [5, 6, 7, 0], list(range(12)) + [0]):
                self.refused(asked(cells), -4)

    def test_cells_are_those_of_the_field_that_there_is(self):
        self.assertEqual(run(cost([1]), field("field 1 2 walls"), cost([1]), cost([2])),
                         [[-4], [1, 2, 0], [4, 1, 1], [-4]])
        self.assertEqual(run(field("field 8 8 walls"), cost([63]), cost([64])), [[8, 8, 0], [4, 1, 1], [-4]])

    def test_rect_out_of_range(self):
        for wrong in (-1, 0, 9) + EXTREMES:
            self.refused(rect(wrong, 1), -3)
            self.refused(rect(1, wrong), -3)
            self.refused(rect(wrong, wrong), -3)

    def test_rect_greater_than_the_field(self):
        for a, b in ((4, 1), (8, 1), (1, 5), (1, 8), (4, 5), (4, 3), (3, 8)):
            self.refused(rect(a, b), -5)

    def test_rect_is_out_of_range_before_it_is_greater_than_the_field(self):
        for a, b in ((8, 0), (4, 9), (8, MOST), (0, 8), (9, 5), (LEAST, 5)):
            self.refused(rect(a, b), -3)

    def test_best_out_of_range(self):
        for h in (-1, 101) + EXTREMES:
            self.refused(best(h), -3)

    def test_least_out_of_range(self):
        for n in (-1, 0, 65, 66) + EXTREMES:
            self.refused(least(n), -3)

    def test_least_of_more_cells_than_the_field_has_is_no_refusal(self):
        self.assertEqual(run(field(BEGIN), least(12), least(13), least(64), least(65))[1:],
                         [[1, 7, 12, 0, 0, 3, 4], [0], [0], [-3]])

    def test_rounded_of_no_cells_of_a_field_is_no_refusal(self):
        self.assertEqual(run(rounded([]), rounded([0]), rounded([1])), [[0, 0, 0], [1, 1, 4], [-4]])

    def test_lists_that_are_no_order(self):
        for days in ([], [0], [1], [0, 0], [1, 1], [0, 2], [2, 1], [0, 1, 2], [1, 0, 0], [0, 1, 1], [-1, 0], [0, -2],
                     [0, 1] * 1000):
            self.refused(order(days), -4)
        for day_number in EXTREMES:
            self.refused(order([day_number]), -4)
            self.refused(order([0, day_number]), -4)
            self.refused(order([day_number, 1]), -4)

    def test_between_out_of_range(self):
        for wrong in (-1, 20, 21) + EXTREMES:
            self.refused(between(wrong, 0), -3)
            self.refused(between(0, wrong), -3)
            self.refused(between(wrong, wrong), -3)

    def test_between_of_days_that_there_are_not(self):
        for wrong in (2, 3, 19):
            self.refused(between(wrong, 0), -5)
            self.refused(between(1, wrong), -5)
            self.refused(between(wrong, wrong), -5)

    def test_between_looks_at_the_first_day_before_the_second(self):
        for out_of_range in (-1, 20, LEAST, MOST):
            self.refused(between(out_of_range, 2), -3)
            self.refused(between(2, out_of_range), -5)
            self.refused(between(1, out_of_range), -3)

    def test_between_on_no_days_and_on_twenty(self):
        self.assertEqual(run(between(0, 0), between(20, 0), between(0, 20)), [[-5], [-3], [-5]])
        twenty = field(field_text(1, 1, (), [(0, 0, 1, 1)] * 20))
        self.assertEqual(run(twenty, between(19, 0), between(0, 19), between(20, 19), between(19, 20))[1:],
                         [[0, 4], [0, 4], [-3], [-3]])

    def test_more_than_seven_days(self):
        eight = field_text(2, 3, ("left",), [(0, 0, 1, 1), (1, 1, 1, 2)] * 4)
        for call in (fewest(), bestorder(), labels()):
            found = run(field(eight), text(), plan(), call, text(), plan(), told())
            self.assertEqual(found[3], [-9])
            self.assertEqual(found[4:6], found[1:3])
            self.assertEqual(found[6], [2, 3, 0, 0, 0, 1, 8])

    def test_texts_with_numbers_that_are_no_bytes(self):
        for wrong in (-1, 256) + EXTREMES:
            for numbers in ([wrong], [102, wrong], [wrong] + [0] * 1999):
                self.refused(field(numbers), -1)
                self.refused([2, len(numbers)] + numbers, -1)
                self.refused(day(numbers), -1)

    def test_texts_with_faults(self):
        self.refused(field(""), -1000)
        self.refused(field("field 3 4"), -1009)
        self.refused(field(BEGIN + "\nfold 3 0 high 1 wide 1"), -1000 - len(BEGIN) - 6)
        self.refused(day(""), -1000)
        self.refused(day("fold 0 0 high 4 wide 1"), -1014)
        self.refused(day("fold 0 0 high 1 wide 1\n"), -1022)

    def test_several_refusals_and_what_is_done_between_them(self):
        given_back = raw(undo(99), field("field 2 2 walls"), cost([4]), day("fold"), cost([3]), rect(3, 2), best(-1),
                         undo(1), told())
        self.assertEqual(given_back, [1, -3, 3, 2, 2, 0, 1, -4, 1, -1004, 3, 4, 1, 1, 1, -5, 1, -3, 1, -5,
                                      7, 2, 2, 0, 0, 0, 0, 0])


if __name__ == "__main__":
    unittest.main()
