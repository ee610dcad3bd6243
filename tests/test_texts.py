"""A field as a text: what is read, the place of each fault, and what is written."""

import re
import unittest

from helper import SIDES, byted, day, day_text, every_walls, field, field_text, last, look, run, told, text

TWENTY = field_text(2, 2, (), [(1, 1, 1, 1)] * 20)

# The fault is where "@" stands.
FAULTS = (
    # the empty text, and words missing at the end
    "@", "field@", "field 3@", "field 3 4@", "field 3 4 walls\nfold@", "field 3 4 walls\nfold 0@",
    "field 3 4 walls\nfold 0 0@", "field 3 4 walls\nfold 0 0 high@", "field 3 4 walls\nfold 0 0 high 1@",
    "field 3 4 walls\nfold 0 0 high 1 wide@", "field 1 1 walls left\nfold 0 0 high 1 wide 1\nfold@",
    # two blanks
    "field @ 3 4 walls", "field 3 @ 4 walls", "field 3 4 @ walls", "field 3 4 walls @ above",
    "field 3 4 walls\nfold @ 0 0 high 1 wide 1", "field 3 4 walls\nfold 0 0 high 1 wide @ 1", "@  field 3 4 walls",
    # a blank at the beginning or the end
    "@ ", "@ field 3 4 walls", "field @", "field 3 4 walls @", "field 3 4 walls left @",
    "field 3 4 walls\nfold 0 0 high 1 wide 1 @",
    # a line's end at the beginning or the end
    "@\n", "@\nfield 3 4 walls", "field 3 4 walls\n@", "field 3 4 walls above\n@",
    "field 3 4 walls\nfold 0 0 high 1 wide 1\n@",
    # a blank beside a line's end
    "field 3 4 walls @\nfold 0 0 high 1 wide 1", "field 3 4 walls\n@ fold 0 0 high 1 wide 1",
    "field 3 4 walls @\n fold 0 0 high 1 wide 1", "field 3 4 walls left @\nfold 0 0 high 1 wide 1",
    "field 3 4 walls\nfold 0 0 high 1 wide 1 @\nfold 0 0 high 1 wide 1", "@ \nfield 3 4 walls", "field @\n3 4 walls",
    # two line's ends
    "field 3 4 walls\n@\nfold 0 0 high 1 wide 1", "field 3 4 walls\n@\n",
    "field 3 4 walls\nfold 0 0 high 1 wide 1\n@\nfold 0 0 high 1 wide 1",
    # a line's end where a word is due
    "field@\n3 4 walls", "field 3@\n4 walls", "field 3 4@\nwalls", "field 3 4 walls\nfold@\n0 0 high 1 wide 1",
    "field 3 4 walls\nfold 0 0 high 1@\nwide 1", "field 3@\n",
    # words that can't stand
    "@Field 3 4 walls", "@fields 3 4 walls", "@fiel", "@x", "@walls", "@fold 0 0 high 1 wide 1", "field @x 4 walls",
    "field 3 @walls", "field 3 4 @wall", "field 3 4 @fold 0 0 high 1 wide 1", "field 3 4 @5 walls",
    "field 3 4 walls @fold 0 0 high 1 wide 1", "field 3 4 walls @abov", "field 3 4 walls @Left", "field 3 4 walls @up",
    "field 3 4 walls @walls", "field 3 4 walls @1", "field 3 4 walls\n@day 0 0 high 1 wide 1",
    "field 3 4 walls\n@above", "field 3 4 walls\n@field 3 4 walls", "field 3 4 walls\nfold 0 0 @wide 1 high 1",
    "field 3 4 walls\nfold 0 0 @1 wide 1", "field 3 4 walls\nfold 0 0 high 1 @high 1",
    "field 3 4 walls\nfold 0 0 high 1 wide 1 @fold 0 0 high 1 wide 1", "field 3 4 walls\nfold 0 0 high 1 wide 1 @left",
    "field 3 4 walls\nfold 0 0 high 1 wide 1\n@walls", "@field\t3 4 walls", "field 3 4 @walls\r", "field 3 4 @walls\0",
    "field 3 4 @walls\xff", "field 3 @4\xa0walls", "@field3 4 walls",
    # walls out of order or twice
    "field 3 4 walls right @above", "field 3 4 walls below @right", "field 3 4 walls left @below",
    "field 3 4 walls left @above", "field 3 4 walls above below @right left", "field 3 4 walls above @above",
    "field 3 4 walls right @right", "field 3 4 walls below @below", "field 3 4 walls left @left",
    "field 3 4 walls above right below left @above", "field 3 4 walls above right @above",
    # numbers with a 0 at the beginning, or not numbers
    "field @03 4 walls", "field 3 @04 walls", "field @00 4 walls", "field 3 4 walls\nfold @00 0 high 1 wide 1",
    "field 3 4 walls\nfold 0 @01 high 1 wide 1", "field 3 4 walls\nfold 0 0 high @01 wide 1",
    "field 3 4 walls\nfold 0 0 high 1 wide @01", "field @+3 4 walls", "field @-3 4 walls", "field @3. 4 walls",
    "field 3 @4x walls", "field @/ 4 walls", "field @: 4 walls", "field 3 @\xb2 walls",
    "field 3 4 walls\nfold @/ 0 high 1 wide 1", "field 3 4 walls\nfold 0 @/ high 1 wide 1",
    "field 8 8 walls\nfold 0 0 high @/ wide 1", "field 8 8 walls\nfold 0 0 high 1 wide @:",
    # numbers out of range
    "field @0 4 walls", "field @9 4 walls", "field 3 @0 walls", "field 3 @9 walls", "field @10 4 walls",
    "field 3 @18 walls", "field @11111111111111111111111111 4 walls",
    "field 3 4 walls\nfold @3 0 high 1 wide 1", "field 3 4 walls\nfold 0 @4 high 1 wide 1",
    "field 3 4 walls\nfold 0 0 high @0 wide 1", "field 3 4 walls\nfold 0 0 high 1 wide @0",
    "field 3 4 walls\nfold 0 0 high @4 wide 1", "field 3 4 walls\nfold 1 0 high @3 wide 1",
    "field 3 4 walls\nfold 2 0 high @2 wide 1", "field 3 4 walls\nfold 0 0 high 1 wide @5",
    "field 3 4 walls\nfold 0 1 high 1 wide @4", "field 3 4 walls\nfold 0 3 high 1 wide @2",
    "field 1 1 walls\nfold @1 0 high 1 wide 1", "field 8 8 walls\nfold @8 0 high 1 wide 1",
    "field 8 8 walls\nfold 0 0 high @9 wide 1", "field 8 8 walls\nfold 0 0 high @10 wide 1",
    "field 8 8 walls\nfold 7 7 high 1 wide 1\nfold @9 0 high 1 wide 1",
    # the first of several faults
    "field @9 9 walls", "field @03  4", "field 3 4 walls left @above right\n\n",
    # one day more than twenty
    TWENTY + "\n@fold 1 1 high 1 wide 1", TWENTY + "\n@fold", TWENTY + "\n@fold 9", TWENTY + "\n@", TWENTY + "\n@x",
    TWENTY + " @fold 1 1 high 1 wide 1", TWENTY + " @",
)

RIGHT_ONES = (
    "field 1 1 walls", "field 8 8 walls", "field 1 8 walls above", "field 8 1 walls left", "field 3 4 walls right below",
    "field 3 4 walls above right below left", "field 3 4 walls\nfold 0 0 high 3 wide 4",
    "field 3 4 walls\nfold 2 3 high 1 wide 1", "field 8 8 walls\nfold 7 7 high 1 wide 1\nfold 0 0 high 8 wide 8",
    "field 3 4 walls left\nfold 0 3 high 3 wide 1\nfold 0 3 high 3 wide 1", "field 1 1 walls\nfold 0 0 high 1 wide 1",
    TWENTY,
)

DAY_FAULTS = (
    "@", "@ ", "@\n", "@ fold 0 0 high 1 wide 1", "@\nfold 0 0 high 1 wide 1", "fold 0 0 high 1 wide 1@\n",
    "fold 0 0 high 1 wide 1 @", "fold 0 0 high 1 wide 1@\nfold 0 0 high 1 wide 1", "fold 0 0 high 1 wide 1 @1",
    "fold@", "fold @", "fold 0@", "fold 0 0@", "fold 0 0 high@", "fold 0 0 high 1@", "fold 0 0 high 1 wide@",
    "fold 0 0 high 1 wide @", "@day 0 0 high 1 wide 1", "@Fold 0 0 high 1 wide 1", "@field 3 4 walls",
    "fold @3 0 high 1 wide 1", "fold 0 @4 high 1 wide 1", "fold 2 0 high @2 wide 1", "fold 0 3 high 1 wide @2",
    "fold 0 0 high @0 wide 1", "fold 0 0 high 1 wide @0", "fold 0 0 high @4 wide 1", "fold 0 0 high 1 wide @5",
    "fold @00 0 high 1 wide 1", "fold 0 0 high @01 wide 1", "fold 0 0 @wide 1", "fold 0 0 high 1 @high",
    "fold @ 0 0 high 1 wide 1", "fold 0@\n0 high 1 wide 1", "fold @-1 0 high 1 wide 1",
)


def marked(text):
    return text.replace("@", ""), text.index("@")


class Faults(unittest.TestCase):
    def test_look_and_field_tell_the_place(self):
        for fault in FAULTS:
            faulty, place = marked(fault)
            with self.subTest(faulty):
                self.assertEqual(last(look(faulty)), [1, place])
                self.assertEqual(last(field(faulty)), [-1000 - place])

    def test_field_with_a_fault_changes_nothing(self):
        before = "field 5 6 walls right\nfold 1 1 high 2 wide 2"
        for fault in FAULTS:
            found = run(field(before), field(fault.replace("@", "")), text(), told())
            self.assertEqual(found[2:], [[0] + byted(before), [5, 6, 0, 1, 0, 0, 1]])

    def test_day_tells_the_place_and_changes_nothing(self):
        before = "field 3 4 walls above\nfold 2 2 high 1 wide 2"
        for fault in DAY_FAULTS:
            faulty, place = marked(fault)
            with self.subTest(faulty):
                found = run(field(before), day(faulty), text())
                self.assertEqual(found[1:], [[-1000 - place], [0] + byted(before)])

    def test_a_day_is_measured_by_the_field_that_there_is(self):
        one = day("fold 1 0 high 1 wide 2")
        self.assertEqual(last(one), [-1005])
        self.assertEqual(last(field("field 2 1 walls"), one), [-1021])
        self.assertEqual(last(field("field 2 2 walls"), one), [1])

    def test_numbers_that_are_no_bytes(self):
        for wrong in (-1, 256, -9223372036854775808, 9223372036854775807):
            for at in (0, 1):
                numbers = [wrong] if at == 0 else byted("field 1 1 walls") + [wrong]
                self.assertEqual(run(look(numbers), field(numbers), day(numbers), told()),
                                 [[-1], [-1], [-1], [1, 1, 0, 0, 0, 0, 0]])

    def test_no_byte_is_looked_for_before_the_fault(self):
        self.assertEqual(run(look([0, 256]), field([0, 256]), day([0, -1])), [[-1], [-1], [-1]])
        self.assertEqual(run(look([0, 255]), field([255]), day([0])), [[1, 0], [-1000], [-1000]])

    def test_no_byte_is_looked_for_before_one_day_too_many(self):
        self.assertEqual(last(field(TWENTY), day([256])), [-1])


class RightTexts(unittest.TestCase):
    def test_they_have_no_fault_and_are_written_as_they_are_read(self):
        for right in RIGHT_ONES:
            with self.subTest(right):
                found = run(look(right), field(right), text())
                self.assertEqual(found[0], [0])
                self.assertEqual(found[1], [int(right.split()[1]), int(right.split()[2]), right.count("fold")])
                self.assertEqual(found[2], [0] + byted(right))

    def test_every_size_and_walls_written_is_read_back(self):
        for rows in range(1, 9):
            for columns in range(1, 9):
                for walls in every_walls():
                    right = field_text(rows, columns, walls)
                    found = run(field(right), text(), told())
                    self.assertEqual(found[0], [rows, columns, 0])
                    self.assertEqual(found[1], [0] + byted(right))
                    self.assertEqual(run(field(found[1][1:]), told())[1], found[2])

    def test_every_fold_of_a_field_and_none_beyond(self):
        for row in range(10):
            for high in range(10):
                right = row < 3 and 1 <= high <= 3 - row
                one = day_text(row, 0, high, 1)
                self.assertEqual(last(field("field 3 1 walls"), day(one)) == [1], right)
                one = day_text(0, row, 1, high)
                self.assertEqual(last(field("field 1 3 walls"), day(one)) == [1], right)

    def test_days_handed_in_one_by_one_are_written_as_in_a_text(self):
        folds = [(0, 0, 3, 4), (2, 3, 1, 1), (1, 0, 2, 2)]
        right = field_text(3, 4, ("below",), folds)
        one_by_one = run(field(field_text(3, 4, ("below",))), *[day(day_text(*d)) for d in folds], text())
        self.assertEqual(one_by_one[-1], [0] + byted(right))


# The grammar once more, as a form and the bounds of its numbers.
FORM = re.compile(r"field ([1-8]) ([1-8]) walls( above)?( right)?( below)?( left)?((?:\nfold \d \d high \d wide \d)*)")
FIELD_WORDS = "field 1 1 walls".split()
DAY_WORDS = "fold 0 0 high 1 wide 1".split()


def is_right(words):
    form = FORM.fullmatch(" ".join(words).replace(" \n ", "\n"))
    if form is None:
        return False
    rows, columns = int(form[1]), int(form[2])
    for line in form[7].split("\n")[1:]:
        row, column, high, wide = [int(line.split()[at]) for at in (1, 2, 4, 6)]
        if min(high, wide) < 1 or row + high > rows or column + wide > columns:
            return False
    return True


def can_go_on(words):
    ends = [[]] + [FIELD_WORDS[k:] for k in range(4)] + [DAY_WORDS[k:] for k in range(7)]
    return any(is_right(words + end) for end in ends)


def place_by_the_grammar(text):
    words = []
    place = 0
    for word in re.split(" |(\n)", text):
        # re.split tells a blank as None, a line's end as itself between the words at its sides.
        if word is None:
            place += 1
            continue
        words.append(word)
        if word == "" or not can_go_on(words):
            return place
        place += len(word)
    return None if is_right(words) else len(text)


class FaultsByTheGrammar(unittest.TestCase):
    BASES = ("field 3 4 walls above below\nfold 1 2 high 2 wide 1", "field 2 1 walls\nfold 0 0 high 1 wide 1\nfold",
             "field 8 1 walls right left")
    SIGNS = " \n0129fa"

    def changed(self, base):
        for at in range(len(base) + 1):
            yield base[:at]
            yield base[:at] + base[at + 1:]
            for sign in self.SIGNS:
                yield base[:at] + sign + base[at:]
                yield base[:at] + sign + base[at + 1:]

    def test_texts_changed_at_one_place(self):
        for base in self.BASES:
            for tried in sorted(set(self.changed(base))):
                place = place_by_the_grammar(tried)
                self.assertEqual(last(look(tried)), [0] if place is None else [1, place], tried)

    def test_texts_with_words_put_elsewhere(self):
        words = ["field", "1", "2", "walls", *SIDES, "fold", "high", "wide", "\n", "0", ""]
        for start in ("", "field ", "field 1 2 ", "field 2 2 walls ", "field 2 2 walls\n", "field 2 2 walls\nfold 0 1 "):
            for one in words:
                for other in words:
                    tried = start + one + " " + other
                    place = place_by_the_grammar(tried)
                    self.assertEqual(last(look(tried)), [0] if place is None else [1, place], tried)


if __name__ == "__main__":
    unittest.main()
