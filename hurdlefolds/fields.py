"""The calls on a field, and what they answer."""

from hurdlefolds.carrying import all_places, carried, carried_each, day_places, times_folded
from hurdlefolds.fieldtext import field_written, read_day, read_field
from hurdlefolds.folds import hurdles, parts
from hurdlefolds.ground import Field, MOST_DAYS, MOST_LINES
from hurdlefolds.orders import Table
from hurdlefolds.rectangles import cheapest_rectangle, greatest_rectangle, most_cells
from hurdlefolds.rectangles import rectangle_cost, rectangle_put, rounded_size
from hurdlefolds.refusals import NotBytes, NotThere, OutOfRange, Refusal, TextFault, TooManyDays, WrongList

MOST_HURDLES = 100
MOST_CELLS = 64
MOST_DAYS_IN_TABLE = 7


def check_range(number, least, most):
    if number < least or number > most:
        raise OutOfRange()


def check_bytes(text):
    for number in text:
        if number < 0 or number > 255:
            raise NotBytes()


def check_cells(field, cells):
    before = -1
    for cell in cells:
        if cell <= before or cell >= field.rows * field.columns:
            raise WrongList()
        before = cell


def check_day(field, day):
    check_range(day, 0, MOST_DAYS - 1)
    if day >= len(field.days):
        raise NotThere()


def check_order(field, days):
    if sorted(days) != list(range(len(field.days))):
        raise WrongList()


def check_days_in_table(field):
    if len(field.days) > MOST_DAYS_IN_TABLE:
        raise TooManyDays()


def answer_clear(field, given):
    field.become(Field())
    return [0]


def answer_field(field, given):
    check_bytes(given)
    field.become(read_field(given))
    return [field.rows, field.columns, len(field.days)]


def answer_look(field, given):
    check_bytes(given)
    try:
        read_field(given)
    except TextFault as fault:
        return [1, fault.place]
    return [0]


def answer_text(field, given):
    return [0] + field_written(field)


def answer_day(field, given):
    check_bytes(given)
    field.days.append(read_day(given, field))
    return [len(field.days)]


def answer_undo(field, given):
    kept = given[0]
    check_range(kept, 0, MOST_DAYS)
    if kept > len(field.days):
        raise NotThere()
    field.days = field.days[:kept]
    return [kept]


def answer_told(field, given):
    return [field.rows, field.columns] + field.walls + [len(field.days)]


def answer_cost(field, given):
    check_cells(field, given)
    return [len(hurdles(field, given)), len(given), len(parts(field, given))]


def answer_sides(field, given):
    check_cells(field, given)
    found = hurdles(field, given)
    answered = [len(found)]
    for cell, side in found:
        answered.append(cell)
        answered.append(side)
    return answered


def answer_rect(field, given):
    high = given[0]
    wide = given[1]
    check_range(high, 1, MOST_LINES)
    check_range(wide, 1, MOST_LINES)
    if high > field.rows or wide > field.columns:
        raise NotThere()
    return [rectangle_cost(field, high, wide)] + rectangle_put(field, high, wide)


def answer_best(field, given):
    check_range(given[0], 0, MOST_HURDLES)
    greatest = greatest_rectangle(field, given[0])
    if greatest is None:
        return [0]
    high = greatest[0]
    wide = greatest[1]
    return [1, high * wide, rectangle_cost(field, high, wide)] + rectangle_put(field, high, wide)


def answer_least(field, given):
    check_range(given[0], 1, MOST_CELLS)
    cheapest = cheapest_rectangle(field, given[0])
    if cheapest is None:
        return [0]
    high = cheapest[0]
    wide = cheapest[1]
    return [1, rectangle_cost(field, high, wide), high * wide] + rectangle_put(field, high, wide)


def answer_curve(field, given):
    most_hurdles = 2 * (field.rows + field.columns)
    found = [most_cells(field, allowed) for allowed in range(most_hurdles + 1)]
    return [len(found)] + found


def answer_rounded(field, given):
    check_cells(field, given)
    size = rounded_size(field, given)
    return [size[0], size[1], rectangle_cost(field, size[0], size[1])]


def answer_plan(field, given):
    places = all_places(field)
    moved = carried_each(places)
    answered = [len(field.days)]
    for day, fold in enumerate(field.days):
        answered.extend([fold[2] * fold[3], len(places[day]), moved[day]])
    return answered


def answer_covered(field, given):
    for cell, times in enumerate(times_folded(field)):
        if times != 1:
            return [0, cell, times]
    return [1]


def answer_order(field, given):
    check_order(field, given)
    places = all_places(field)
    moved = carried_each([places[day] for day in given])
    return [sum(moved), max([len(needed) for needed in places], default=0)]


def answer_fewest(field, given):
    check_days_in_table(field)
    return [Table(field).fewest()]


def answer_bestorder(field, given):
    check_days_in_table(field)
    found = Table(field).best_order()
    return [len(found)] + found


def answer_labels(field, given):
    check_days_in_table(field)
    found = []
    for line in Table(field).lines:
        found.extend([-1 if least is None else least for least in line])
    return [len(found)] + found


def answer_between(field, given):
    check_day(field, given[0])
    check_day(field, given[1])
    standing = day_places(field, field.days[given[0]])
    needed = day_places(field, field.days[given[1]])
    moved = carried(standing, needed)
    return [moved, len(needed) - moved]


ANSWERING = {
    0: answer_clear,
    1: answer_field,
    2: answer_look,
    3: answer_text,
    4: answer_day,
    5: answer_undo,
    6: answer_told,
    7: answer_cost,
    8: answer_sides,
    9: answer_rect,
    10: answer_best,
    11: answer_least,
    12: answer_curve,
    13: answer_rounded,
    14: answer_plan,
    15: answer_covered,
    16: answer_order,
    17: answer_fewest,
    18: answer_bestorder,
    19: answer_labels,
    20: answer_between,
}

# No call has both whole numbers and a list, nor two lists: what is given is one row of numbers.
CALLS_WITH_A_LIST = (1, 2, 4, 7, 8, 13, 16)
WHOLE_NUMBERS = {
    0: 0, 3: 0, 5: 1, 6: 0, 9: 2, 10: 1, 11: 1, 12: 0, 14: 0, 15: 0, 17: 0, 18: 0, 19: 0, 20: 2,
}


def answer_call(field, number, given):
    answering = ANSWERING[number]
    try:
        return answering(field, given)
    except Refusal as refusal:
        return [refusal.answer]


def answers(calls):
    field = Field()
    given_back = []
    place = 0
    while place < len(calls):
        number = calls[place]
        if number in CALLS_WITH_A_LIST:
            start = place + 2
            end = start + calls[place + 1]
        else:
            start = place + 1
            end = start + WHOLE_NUMBERS[number]
        answered = answer_call(field, number, calls[start:end])
        given_back.append(len(answered))
        given_back.extend(answered)
        place = end
    return given_back
