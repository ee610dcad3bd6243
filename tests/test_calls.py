"""Calls one behind another on one field: what a later one sees of the earlier ones."""

import contextlib
import io
import time
import unittest

from helper import (best, bestorder, between, byted, clear, cost, covered, curve, day, day_text, every_walls, fewest, field,
                    field_text, labels, last, least, look, order, plan, raw, rect, rounded, run, sides, told, text, undo)
from hurdlefolds.fields import answers


def written(answer):
    return bytes(answer[1:]).decode("latin-1")


class Framing(unittest.TestCase):
    def test_each_answer_stands_behind_how_many_numbers_it_has(self):
        given_back = raw(clear(), told(), cost([0]), undo(21), text(), best(3))
        self.assertEqual(given_back, [1, 0] + [7, 1, 1, 0, 0, 0, 0, 0] + [3, 4, 1, 1] + [1, -3]
                         + [16, 0] + byted("field 1 1 walls") + [1, 0])

    def test_the_answers_of_the_calls_least_to_between(self):
        given_back = raw(field("field 1 2 walls\nfold 0 0 high 1 wide 1\nfold 0 1 high 1 wide 1"), least(2), least(3),
                         curve(), rounded([1]), plan(), covered(), undo(1), covered(), order([0]), order([1]),
                         fewest(), bestorder(), labels(), between(0, 0), between(0, 1))
        self.assertEqual(given_back, [3, 1, 2, 2] + [7, 1, 6, 2, 0, 0, 1, 2] + [1, 0] + [8, 7, 0, 0, 0, 0, 1, 1, 2]
                         + [3, 1, 1, 4] + [7, 2, 1, 4, 4, 1, 4, 3] + [1, 1] + [1, 1] + [3, 0, 1, 0] + [2, 4, 4]
                         + [1, -4] + [1, 4] + [2, 1, 0] + [3, 2, -1, 4] + [2, 0, 4] + [1, -5])

    def test_a_single_call(self):
        self.assertEqual(answers([0]), [1, 0])
        self.assertEqual(answers([7, 0]), [3, 0, 0, 0])

    def test_a_hundred_calls(self):
        self.assertEqual(answers([5, 0] * 100), [1, 0] * 100)

    def test_long_lists(self):
        self.assertEqual(run(look([32] * 2000), cost(range(2000)), field([255] * 2000)), [[1, 0], [-4], [-1000]])

    def test_only_whole_numbers_are_given_back(self):
        given_back = raw(told(), field("field 2 2 walls above left"), told(), look("x"), cost([0, 3]), sides([0]),
                         rect(1, 2), best(2), text(), day(day_text(0, 0, 1, 2)), day(day_text(1, 0, 1, 2)), least(2),
                         curve(), rounded([0, 3]), rounded([]), plan(), covered(), order([1, 0]), fewest(), bestorder(),
                         labels(), between(0, 1), undo(0), covered(), order([]), fewest(), labels())
        self.assertIs(type(given_back), list)
        self.assertEqual({type(number) for number in given_back}, {int})


class State(unittest.TestCase):
    def test_at_the_beginning_one_cell_without_walls_and_days(self):
        self.assertEqual(run(told(), text()), [[1, 1, 0, 0, 0, 0, 0], [0] + byted("field 1 1 walls")])

    def test_any_call_can_be_the_first(self):
        self.assertEqual(last(day("fold 0 0 high 1 wide 1")), [1])
        self.assertEqual(last(undo(0)), [0])
        self.assertEqual(last(sides([0])), [4, 0, 0, 0, 1, 0, 2, 0, 3])
        self.assertEqual(last(rect(1, 1)), [4, 0, 0, 1, 1])
        self.assertEqual(last(best(4)), [1, 1, 4, 0, 0, 1, 1])
        self.assertEqual(last(least(1)), [1, 4, 1, 0, 0, 1, 1])
        self.assertEqual(last(curve()), [5, 0, 0, 0, 0, 1])
        self.assertEqual(last(rounded([0])), [1, 1, 4])
        self.assertEqual(last(plan()), [0])
        self.assertEqual(last(covered()), [0, 0, 0])
        self.assertEqual(last(order([])), [0, 0])
        self.assertEqual([last(fewest()), last(bestorder()), last(labels())], [[0], [0], [0]])
        self.assertEqual(last(between(0, 0)), [-5])

    def test_field_tells_rows_columns_and_days(self):
        self.assertEqual(last(field("field 3 5 walls right")), [3, 5, 0])
        self.assertEqual(last(field("field 8 1 walls\nfold 0 0 high 8 wide 1\nfold 7 0 high 1 wide 1")), [8, 1, 2])

    def test_a_later_field_replaces_all_of_the_earlier_one(self):
        found = run(field("field 3 5 walls right\nfold 0 0 high 1 wide 1"), told(), field("field 2 4 walls left"),
                    told(), text())
        self.assertEqual(found, [[3, 5, 1], [3, 5, 0, 1, 0, 0, 1], [2, 4, 0], [2, 4, 0, 0, 0, 1, 0],
                                 [0] + byted("field 2 4 walls left")])

    def test_days_are_put_behind_the_others(self):
        found = run(field("field 2 3 walls\nfold 0 0 high 2 wide 3"), day("fold 1 2 high 1 wide 1"),
                    day("fold 0 1 high 2 wide 2"), told(), text())
        self.assertEqual(found[1:4], [[2], [3], [2, 3, 0, 0, 0, 0, 3]])
        self.assertEqual(written(found[4]), "field 2 3 walls\nfold 0 0 high 2 wide 3\n"
                         "fold 1 2 high 1 wide 1\nfold 0 1 high 2 wide 2")

    def test_undo_keeps_the_first_days(self):
        three = field_text(2, 2, (), [(0, 0, 1, 1), (1, 0, 1, 2), (0, 1, 2, 1)])
        for kept in range(4):
            found = run(field(three), undo(kept), told(), text())
            self.assertEqual(found[1], [kept])
            self.assertEqual(found[2], [2, 2, 0, 0, 0, 0, kept])
            self.assertEqual(written(found[3]), "\n".join(three.split("\n")[:kept + 1]))

    def test_a_day_behind_an_undo(self):
        found = run(field(field_text(2, 2, ("below",), [(0, 0, 1, 1), (1, 0, 1, 2)])), undo(1),
                    day("fold 0 0 high 2 wide 2"), text())
        self.assertEqual(found[2], [2])
        self.assertEqual(written(found[3]), field_text(2, 2, ("below",), [(0, 0, 1, 1), (0, 0, 2, 2)]))

    def test_clear_is_as_at_the_beginning(self):
        found = run(field("field 8 7 walls above right below left\nfold 7 6 high 1 wide 1"), day("fold 0 0 high 8 wide 7"),
                    clear(), told(), text(), field("field 2 2 walls"), clear(), day("fold 0 0 high 1 wide 1"), text())
        self.assertEqual(found[2:5], [[0], [1, 1, 0, 0, 0, 0, 0], [0] + byted("field 1 1 walls")])
        self.assertEqual(found[6:8], [[0], [1]])
        self.assertEqual(written(found[8]), "field 1 1 walls\nfold 0 0 high 1 wide 1")

    def test_told_tells_each_side(self):
        for walls in every_walls():
            flags = [1 if side in walls else 0 for side in ("above", "right", "below", "left")]
            self.assertEqual(last(field(field_text(6, 4, walls)), told()), [6, 4] + flags + [0])

    def test_look_changes_nothing(self):
        found = run(field("field 2 3 walls\nfold 0 0 high 1 wide 1"), look("field 4 4 walls above"), look("no"), told())
        self.assertEqual(found[1:], [[0], [1, 0], [2, 3, 0, 0, 0, 0, 1]])

    def test_questions_change_nothing(self):
        before = field("field 3 4 walls right below\nfold 0 0 high 1 wide 1")
        for asked in (text(), told(), cost([0, 5]), sides([0, 5]), rect(2, 2), best(6), least(5), curve(), rounded([0, 5]),
                      plan(), covered(), order([0]), fewest(), bestorder(), labels(), between(0, 0)):
            found = run(before, text(), asked, asked, text(), told())
            self.assertEqual(found[1], found[4])
            self.assertEqual(found[2], found[3])
            self.assertEqual(found[5], [3, 4, 0, 1, 1, 0, 1])

    def test_twenty_days_and_one_more(self):
        one = day("fold 0 0 high 1 wide 1")
        found = run(*([one] * 21 + [told(), undo(20), undo(19), one, one]))
        self.assertEqual(found[:20], [[n] for n in range(1, 21)])
        self.assertEqual(found[20:], [[-1000], [1, 1, 0, 0, 0, 0, 20], [20], [19], [20], [-1000]])

    def test_twenty_days_in_a_text_and_one_more_by_day(self):
        twenty = field_text(8, 8, (), [(n % 8, n % 5, 1, 1) for n in range(20)])
        found = run(field(twenty), day("fold 0 0 high 1 wide 1"), day(""), day("x"), text())
        self.assertEqual(found[:4], [[8, 8, 20], [-1000], [-1000], [-1000]])
        self.assertEqual(written(found[4]), twenty)


# What all questions about the days answer, on the days that there are then.
ASKED = (plan(), covered(), fewest(), bestorder(), labels())


class DaysThatThereAreThen(unittest.TestCase):
    ONE = [[1, 1, 4, 4], [0, 1, 0], [4], [1, 0], [2, -1, 4]]
    TWO = [[2, 1, 4, 4, 1, 4, 3], [1], [7], [2, 1, 0], [8, -1, -1, 4, -1, -1, 4, 7, 7]]
    NONE = [[0], [0, 0, 0], [0], [0], [0]]

    def test_field_day_undo_and_clear(self):
        found = run(field("field 1 2 walls\nfold 0 0 high 1 wide 1"), *ASKED, day("fold 0 1 high 1 wide 1"), *ASKED,
                    undo(1), *ASKED, undo(0), *ASKED, day("fold 0 0 high 1 wide 1"), clear(), *ASKED)
        self.assertEqual(found, [[1, 2, 1], *self.ONE, [2], *self.TWO, [1], *self.ONE, [0], *self.NONE, [1], [0], *self.NONE])

    def test_order_and_between(self):
        asked = (order([]), order([0]), order([1, 0]), between(0, 0), between(1, 0))
        found = run(field("field 1 2 walls\nfold 0 0 high 1 wide 1"), *asked, day("fold 0 1 high 1 wide 1"), *asked,
                    undo(1), *asked, clear(), *asked)
        one = [[-4], [4, 4], [-4], [0, 4], [-5]]
        two = [[-4], [-4], [7, 4], [0, 4], [3, 1]]
        none = [[0, 0], [-4], [-4], [-5], [-5]]
        self.assertEqual(found, [[1, 2, 1], *one, [2], *two, [1], *one, [0], *none])

    def test_the_walls_and_size_of_a_later_field(self):
        days = [(0, 0, 1, 1), (0, 1, 1, 1)]
        found = run(field(field_text(1, 2, (), days)), *ASKED, field(field_text(1, 2, ("above", "left"), days)), plan(),
                    fewest(), between(0, 1), curve(), least(1), rounded([0]), field(field_text(2, 3, (), days)), plan(),
                    covered(), least(6))
        self.assertEqual(found[1:6], self.TWO)
        self.assertEqual(found[7:13], [[2, 1, 2, 2, 1, 3, 2], [4], [2, 1], [7, 0, 0, 1, 2, 2, 2, 2], [1, 2, 1, 0, 0, 1, 1],
                                       [1, 1, 2]])
        self.assertEqual(found[14:], [[2, 1, 4, 4, 1, 4, 3], [0, 2, 0], [1, 10, 6, 0, 0, 2, 3]])

    def test_a_refused_field_or_day_leaves_the_days(self):
        found = run(field("field 1 2 walls\nfold 0 0 high 1 wide 1"), field("field 1 2 walls\nfold 0 2 high 1 wide 1"),
                    *ASKED, day("fold 0 1 high 1 wide 2"), *ASKED, undo(2), *ASKED)
        self.assertEqual(found[1:], [[-1023], *self.ONE, [-1021], *self.ONE, [-5], *self.ONE])


class HandedIn(unittest.TestCase):
    CALLS = (field("field 3 3 walls left\nfold 0 0 high 1 wide 1"), day(day_text(2, 2, 1, 1)), cost([0, 1, 8]),
             sides([4]), least(4), curve(), rounded([0, 4, 8]), plan(), covered(), order([1, 0]), order([0, 0]), fewest(),
             bestorder(), labels(), between(0, 1), undo(1), look("field"), rect(2, 3), best(9), cost([3, 2]), text(),
             told(), labels(), bestorder(), clear())

    def test_the_list_is_as_it_was(self):
        handed = [number for call in self.CALLS for number in call]
        before = list(handed)
        answers(handed)
        self.assertEqual(handed, before)

    def test_the_list_is_not_changed_for_a_while_either(self):
        class Watched(list):
            def refuse(self, *given):
                raise AssertionError("the list handed in is changed")

            __setitem__ = __delitem__ = __iadd__ = __imul__ = append = extend = insert = pop = remove = refuse
            clear = sort = reverse = refuse

        handed = Watched(number for call in self.CALLS for number in call)
        self.assertEqual(answers(handed), raw(*self.CALLS))

    def test_a_second_time_gives_back_the_same(self):
        handed = [number for call in self.CALLS[:-1] for number in call]
        first = answers(handed)
        kept = list(first)
        first.append(7)
        self.assertEqual(answers(handed), kept)
        self.assertEqual(answers([6]), [7, 1, 1, 0, 0, 0, 0, 0])
        self.assertEqual(answers([14, 19]), [1, 0, 1, 0])

    def test_nothing_is_printed(self):
        out = io.StringIO()
        err = io.StringIO()
        with contextlib.redirect_stdout(out), contextlib.redirect_stderr(err):
            raw(*self.CALLS)
        self.assertEqual((out.getvalue(), err.getvalue()), ("", ""))


class HundredCalls(unittest.TestCase):
    """A hundred calls on the largest field, with the most days that the call allows, end within some seconds."""

    SECONDS = 5
    CELLS = list(range(64))

    def ends_soon(self, begin, call):
        start = time.perf_counter()
        found = run(begin, *[call] * 99)
        self.assertLess(time.perf_counter() - start, self.SECONDS, call)
        self.assertEqual(found[1:], [found[1]] * 99)
        self.assertGreaterEqual(found[1][0], 0)

    def test_calls_about_cells(self):
        begin = field("field 8 8 walls right")
        for call in (cost(self.CELLS), sides(self.CELLS[::2]), rounded(self.CELLS), best(100), least(1), curve()):
            self.ends_soon(begin, call)

    def test_calls_about_twenty_days(self):
        begin = field(field_text(8, 8, (), [(turn % 2, turn % 3, 8 - turn % 2, 8 - turn % 3) for turn in range(20)]))
        for call in (plan(), covered(), order(list(range(20))[::-1]), between(19, 18), text()):
            self.ends_soon(begin, call)

    def test_calls_about_seven_days(self):
        begin = field(field_text(8, 8, (), [(turn % 2, turn % 3, 8 - turn % 2, 8 - turn % 3) for turn in range(7)]))
        for call in (fewest(), bestorder(), labels()):
            self.ends_soon(begin, call)


if __name__ == "__main__":
    unittest.main()
