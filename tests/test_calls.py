"""Calls one behind another on one field: what a later one sees of the earlier ones."""

import contextlib
import io
import unittest

from helper import (best, byted, clear, cost, day, day_text, every_walls, field, field_text, last, look, raw, rect, run,
                    sides, told, text, undo)
from hurdlefolds.fields import answers


def written(answer):
    return bytes(answer[1:]).decode("latin-1")


class Framing(unittest.TestCase):
    def test_each_answer_stands_behind_how_many_numbers_it_has(self):
        given_back = raw(clear(), told(), cost([0]), undo(21), text(), best(3))
        self.assertEqual(given_back, [1, 0] + [7, 1, 1, 0, 0, 0, 0, 0] + [3, 4, 1, 1] + [1, -3]
                         + [16, 0] + byted("field 1 1 walls") + [1, 0])

    def test_a_single_call(self):
        self.assertEqual(answers([0]), [1, 0])
        self.assertEqual(answers([7, 0]), [3, 0, 0, 0])

    def test_a_hundred_calls(self):
        self.assertEqual(answers([5, 0] * 100), [1, 0] * 100)

    def test_long_lists(self):
        self.assertEqual(run(look([32] * 2000), cost(range(2000)), field([255] * 2000)), [[1, 0], [-4], [-1000]])

    def test_only_whole_numbers_are_given_back(self):
        given_back = raw(told(), field("field 2 2 walls above left"), told(), look("x"), cost([0, 3]), sides([0]),
                         rect(1, 2), best(2), text())
        self.assertIs(type(given_back), list)
        self.assertEqual({type(number) for number in given_back}, {int})


class State(unittest.TestCase):
    def test_at_the_beginning_one_cell_without_walls_and_days(self):
        self.assertEqual(run(told(), text()), [[1, 1, 0, 0, 0, 0, 0], [0] + byted("field 1 1 walls")])

    def test_any_call_can_be_the_first(self):
        self.assertEqual(last(day("fold 0 0 high 1 wide 1")), [1])
        self.assertEqual(last(undo(0)), [0])
        self.assertEqual(last(sides([0])), [4, 0, 0, 0, 1, 0, 2, 0, 3])
        self.assertEqual(last(rect(1, 1)), [4, 0, 0, 1, 1])
        self.assertEqual(last(best(4)), [1, 1, 4, 0, 0, 1, 1])

    def test_field_tells_rows_columns_and_days(self):
        self.assertEqual(last(field("field 3 5 walls right")), [3, 5, 0])
        self.assertEqual(last(field("field 8 1 walls\nfold 0 0 high 8 wide 1\nfold 7 0 high 1 wide 1")), [8, 1, 2])

    def test_a_later_field_replaces_all_of_the_earlier_one(self):
        found = run(field("field 3 5 walls right\nfold 0 0 high 1 wide 1"), told(), field("field 2 4 walls left"),
                    told(), text())
        self.assertEqual(found, [[3, 5, 1], [3, 5, 0, 1, 0, 0, 1], [2, 4, 0], [2, 4, 0, 0, 0, 1, 0],
                                 [0] + byted("field 2 4 walls left")])

    def test_days_are_put_behind_the_others(self):
        found = run(field("field 2 3 walls\nfold 0 0 high 2 wide 3"), day("fold 1 2 high 1 wide 1"),
                    day("fold 0 1 high 2 wide 2"), told(), text())
        self.assertEqual(found[1:4], [[2], [3], [2, 3, 0, 0, 0, 0, 3]])
        self.assertEqual(written(found[4]), "field 2 3 walls\nfold 0 0 high 2 wide 3\n"
                         "fold 1 2 high 1 wide 1\nfold 0 1 high 2 wide 2")

    def test_undo_keeps_the_first_days(self):
        three = field_text(2, 2, (), [(0, 0, 1, 1), (1, 0, 1, 2), (0, 1, 2, 1)])
        for kept in range(4):
            found = run(field(three), undo(kept), told(), text())
            self.assertEqual(found[1], [kept])
            self.assertEqual(found[2], [2, 2, 0, 0, 0, 0, kept])
            self.assertEqual(written(found[3]), "\n".join(three.split("\n")[:kept + 1]))

    def test_a_day_behind_an_undo(self):
        found = run(field(field_text(2, 2, ("below",), [(0, 0, 1, 1), (1, 0, 1, 2)])), undo(1),
                    day("fold 0 0 high 2 wide 2"), text())
        self.assertEqual(found[2], [2])
        self.assertEqual(written(found[3]), field_text(2, 2, ("below",), [(0, 0, 1, 1), (0, 0, 2, 2)]))

    def test_clear_is_as_at_the_beginning(self):
        found = run(field("field 8 7 walls above right below left\nfold 7 6 high 1 wide 1"), day("fold 0 0 high 8 wide 7"),
                    clear(), told(), text(), field("field 2 2 walls"), clear(), day("fold 0 0 high 1 wide 1"), text())
        self.assertEqual(found[2:5], [[0], [1, 1, 0, 0, 0, 0, 0], [0] + byted("field 1 1 walls")])
        self.assertEqual(found[6:8], [[0], [1]])
        self.assertEqual(written(found[8]), "field 1 1 walls\nfold 0 0 high 1 wide 1")

    def test_told_tells_each_side(self):
        for walls in every_walls():
            flags = [1 if side in walls else 0 for side in ("above", "right", "below", "left")]
            self.assertEqual(last(field(field_text(6, 4, walls)), told()), [6, 4] + flags + [0])

    def test_look_changes_nothing(self):
        found = run(field("field 2 3 walls\nfold 0 0 high 1 wide 1"), look("field 4 4 walls above"), look("no"), told())
        self.assertEqual(found[1:], [[0], [1, 0], [2, 3, 0, 0, 0, 0, 1]])

    def test_questions_change_nothing(self):
        before = field("field 3 4 walls right below\nfold 0 0 high 1 wide 1")
        for asked in (text(), told(), cost([0, 5]), sides([0, 5]), rect(2, 2), best(6)):
            found = run(before, text(), asked, asked, text(), told())
            self.assertEqual(found[1], found[4])
            self.assertEqual(found[2], found[3])
            self.assertEqual(found[5], [3, 4, 0, 1, 1, 0, 1])

    def test_twenty_days_and_one_more(self):
        one = day("fold 0 0 high 1 wide 1")
        found = run(*([one] * 21 + [told(), undo(20), undo(19), one, one]))
        self.assertEqual(found[:20], [[n] for n in range(1, 21)])
        self.assertEqual(found[20:], [[-1000], [1, 1, 0, 0, 0, 0, 20], [20], [19], [20], [-1000]])

    def test_twenty_days_in_a_text_and_one_more_by_day(self):
        twenty = field_text(8, 8, (), [(n % 8, n % 5, 1, 1) for n in range(20)])
        found = run(field(twenty), day("fold 0 0 high 1 wide 1"), day(""), day("x"), text())
        self.assertEqual(found[:4], [[8, 8, 20], [-1000], [-1000], [-1000]])
        self.assertEqual(written(found[4]), twenty)


class HandedIn(unittest.TestCase):
    CALLS = (field("field 3 3 walls left\nfold 0 0 high 1 wide 1"), day(day_text(2, 2, 1, 1)), cost([0, 1, 8]),
             sides([4]), undo(1), look("field"), rect(2, 3), best(9), cost([3, 2]), text(), told(), clear())

    def test_the_list_is_as_it_was(self):
        handed = [number for call in self.CALLS for number in call]
        before = list(handed)
        answers(handed)
        self.assertEqual(handed, before)

    def test_the_list_is_not_changed_for_a_while_either(self):
        class Watched(list):
            def refuse(self, *given):
                raise AssertionError("the list handed in is changed")

            __setitem__ = __delitem__ = __iadd__ = __imul__ = append = extend = insert = pop = remove = refuse
            clear = sort = reverse = refuse

        handed = Watched(number for call in self.CALLS for number in call)
        self.assertEqual(answers(handed), raw(*self.CALLS))

    def test_a_second_time_gives_back_the_same(self):
        handed = [number for call in self.CALLS[:-1] for number in call]
        first = answers(handed)
        kept = list(first)
        first.append(7)
        self.assertEqual(answers(handed), kept)
        self.assertEqual(answers([6]), [7, 1, 1, 0, 0, 0, 0, 0])

    def test_nothing_is_printed(self):
        out = io.StringIO()
        err = io.StringIO()
        with contextlib.redirect_stdout(out), contextlib.redirect_stderr(err):
            raw(*self.CALLS)
        self.assertEqual((out.getvalue(), err.getvalue()), ("", ""))


if __name__ == "__main__":
    unittest.main()
