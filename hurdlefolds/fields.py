"""The calls on a field, and what they answer."""

from hurdlefolds.fieldtext import field_written, read_day, read_field
from hurdlefolds.folds import hurdles, parts
from hurdlefolds.ground import Field, MOST_DAYS, MOST_LINES
from hurdlefolds.rectangles import greatest_rectangle, rectangle_cost, rectangle_put
from hurdlefolds.refusals import NotBytes, NotThere, OutOfRange, Refusal, TextFault, WrongList

MOST_HURDLES = 100


def check_range(number, least, most):
    if number < least or number > most:
        raise OutOfRange()


def check_bytes(text):
    for number in text:
        if number < 0 or number > 255:
            raise NotBytes()


def check_cells(field, cells):
    before = -1
    for cell in cells:
        if cell <= before or cell >= field.rows * field.columns:
            raise WrongList()
        before = cell


def answer_clear(field, given):
    field.become(Field())
    return [0]


def answer_field(field, given):
    check_bytes(given)
    field.become(read_field(given))
    return [field.rows, field.columns, len(field.days)]


def answer_look(field, given):
    check_bytes(given)
    try:
        read_field(given)
    except TextFault as fault:
        return [1, fault.place]
    return [0]


def answer_text(field, given):
    return [0] + field_written(field)


def answer_day(field, given):
    check_bytes(given)
    field.days.append(read_day(given, field))
    return [len(field.days)]


def answer_undo(field, given):
    kept = given[0]
    check_range(kept, 0, MOST_DAYS)
    if kept > len(field.days):
        raise NotThere()
    field.days = field.days[:kept]
    return [kept]


def answer_told(field, given):
    return [field.rows, field.columns] + field.walls + [len(field.days)]


def answer_cost(field, given):
    check_cells(field, given)
    return [len(hurdles(field, given)), len(given), len(parts(field, given))]


def answer_sides(field, given):
    check_cells(field, given)
    found = hurdles(field, given)
    answered = [len(found)]
    for cell, side in found:
        answered.append(cell)
        answered.append(side)
    return answered


def answer_rect(field, given):
    high = given[0]
    wide = given[1]
    check_range(high, 1, MOST_LINES)
    check_range(wide, 1, MOST_LINES)
    if high > field.rows or wide > field.columns:
        raise NotThere()
    return [rectangle_cost(field, high, wide)] + rectangle_put(field, high, wide)


def answer_best(field, given):
    check_range(given[0], 0, MOST_HURDLES)
    greatest = greatest_rectangle(field, given[0])
    if greatest is None:
        return [0]
    high = greatest[0]
    wide = greatest[1]
    return [1, high * wide, rectangle_cost(field, high, wide)] + rectangle_put(field, high, wide)


ANSWERING = {
    0: answer_clear,
    1: answer_field,
    2: answer_look,
    3: answer_text,
    4: answer_day,
    5: answer_undo,
    6: answer_told,
    7: answer_cost,
    8: answer_sides,
    9: answer_rect,
    10: answer_best,
}

# No call has both whole numbers and a list, nor two lists: what is given is one row of numbers.
CALLS_WITH_A_LIST = (1, 2, 4, 7, 8)
WHOLE_NUMBERS = {0: 0, 3: 0, 5: 1, 6: 0, 9: 2, 10: 1}


def answer_call(field, number, given):
    answering = ANSWERING[number]
    try:
        return answering(field, given)
    except Refusal as refusal:
        return [refusal.answer]


def answers(calls):
    field = Field()
    given_back = []
    place = 0
    while place < len(calls):
        number = calls[place]
        if number in CALLS_WITH_A_LIST:
            start = place + 2
            end = start + calls[place + 1]
        else:
            start = place + 1
            end = start + WHOLE_NUMBERS[number]
        answered = answer_call(field, number, calls[start:end])
        given_back.append(len(answered))
        given_back.extend(answered)
        place = end
    return given_back
