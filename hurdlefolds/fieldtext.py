"""A field as a text: reading it, with the place of its fault, and writing it."""

from hurdlefolds.ground import Field, MOST_DAYS, MOST_LINES, SIDE_WORDS
from hurdlefolds.refusals import TextFault

BLANK = 32
LINE_END = 10
DIGIT_ZERO = 48


def spelled(text):
    return [ord(sign) for sign in text]


# A misplaced blank or line's end leaves an empty word here, at the place of its fault,
# and no word of the grammar is empty: so the reader needs no rule for blanks.
def words_with_places(text):
    words = []
    start = 0
    for place, byte in enumerate(text):
        if byte == BLANK or byte == LINE_END:
            words.append((start, text[start:place]))
            start = place + 1
        if byte == LINE_END:
            words.append((place, [LINE_END]))
    words.append((start, text[start:]))
    return words


class Reader:
    def __init__(self, text):
        self.length = len(text)
        self.words = words_with_places(text)
        self.reached = 0

    def at_end(self):
        return self.reached == len(self.words)

    def refuse(self):
        if self.at_end():
            raise TextFault(self.length)
        raise TextFault(self.words[self.reached][0])

    def sees(self, word):
        return not self.at_end() and self.words[self.reached][1] == spelled(word)

    def pass_word(self, word):
        if not self.sees(word):
            self.refuse()
        self.reached += 1

    # No number of a text is above 8: a word of more than one byte is never one.
    def pass_number(self, least, most):
        if self.at_end() or len(self.words[self.reached][1]) != 1:
            self.refuse()
        number = self.words[self.reached][1][0] - DIGIT_ZERO
        if number < least or number > most:
            self.refuse()
        self.reached += 1
        return number

    def pass_end(self):
        if not self.at_end():
            self.refuse()


def pass_day(reader, field):
    if len(field.days) == MOST_DAYS:
        reader.refuse()
    reader.pass_word("fold")
    row = reader.pass_number(0, field.rows - 1)
    column = reader.pass_number(0, field.columns - 1)
    reader.pass_word("high")
    high = reader.pass_number(1, field.rows - row)
    reader.pass_word("wide")
    wide = reader.pass_number(1, field.columns - column)
    return (row, column, high, wide)


def read_day(text, field):
    reader = Reader(text)
    day = pass_day(reader, field)
    reader.pass_end()
    return day


def read_field(text):
    reader = Reader(text)
    field = Field()
    reader.pass_word("field")
    field.rows = reader.pass_number(1, MOST_LINES)
    field.columns = reader.pass_number(1, MOST_LINES)
    reader.pass_word("walls")
    for side, word in enumerate(SIDE_WORDS):
        if reader.sees(word):
            reader.pass_word(word)
            field.walls[side] = 1
    while not reader.at_end():
        reader.pass_word("\n")
        field.days.append(pass_day(reader, field))
    return field


def day_written(day):
    row = day[0]
    column = day[1]
    high = day[2]
    wide = day[3]
    return f"fold {row} {column} high {high} wide {wide}"


def field_written(field):
    rows = field.rows
    columns = field.columns
    words = [f"field {rows} {columns} walls"]
    for side, word in enumerate(SIDE_WORDS):
        if field.walls[side] == 1:
            words.append(word)
    lines = [" ".join(words)]
    for day in field.days:
        lines.append(day_written(day))
    return spelled("\n".join(lines))
