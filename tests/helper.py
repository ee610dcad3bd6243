"""The calls by their names, as lists of numbers, and what they answer."""

from hurdlefolds.fields import answers

LEAST = -9223372036854775808
MOST = 9223372036854775807
SIDES = ("above", "right", "below", "left")


def byted(text):
    return list(text.encode("latin-1")) if isinstance(text, str) else list(text)


def listed(number, numbers):
    return [number, len(numbers)] + list(numbers)


def clear():
    return [0]


def field(text):
    return listed(1, byted(text))


def look(text):
    return listed(2, byted(text))


def text():
    return [3]


def day(text):
    return listed(4, byted(text))


def undo(n):
    return [5, n]


def told():
    return [6]


def cost(cells):
    return listed(7, cells)


def sides(cells):
    return listed(8, cells)


def rect(a, b):
    return [9, a, b]


def best(h):
    return [10, h]


def least(n):
    return [11, n]


def curve():
    return [12]


def rounded(cells):
    return listed(13, cells)


def plan():
    return [14]


def covered():
    return [15]


def order(days):
    return listed(16, days)


def fewest():
    return [17]


def bestorder():
    return [18]


def labels():
    return [19]


def between(a, b):
    return [20, a, b]


def field_text(rows, columns, walls=(), days=()):
    first = " ".join(["field", str(rows), str(columns), "walls"] + [w for w in SIDES if w in walls])
    return "\n".join([first] + [day_text(*d) for d in days])


def day_text(row, column, high, wide):
    return f"fold {row} {column} high {high} wide {wide}"


def every_walls():
    return [[SIDES[side] for side in range(4) if number >> side & 1] for number in range(16)]


def cells_of(columns, row, column, high, wide):
    return [r * columns + c for r in range(row, row + high) for c in range(column, column + wide)]


def cells_numbered(cells, number):
    """The cells that are the number's bits."""
    return [cell for cell in range(cells) if number >> cell & 1]


def fold_cost(rows, columns, walls, number):
    """What the fold costs whose cells are the number's bits."""
    needed = 0
    for cell in range(rows * columns):
        if number >> cell & 1:
            row, column = divmod(cell, columns)
            needed += "above" not in walls if row == 0 else not number >> cell - columns & 1
            needed += "below" not in walls if row == rows - 1 else not number >> cell + columns & 1
            needed += "left" not in walls if column == 0 else not number >> cell - 1 & 1
            needed += "right" not in walls if column == columns - 1 else not number >> cell + 1 & 1
    return needed


def every_fold(rows, columns):
    """Each fold that's a rectangle, as its row, column, rows and columns."""
    return [(row, column, high, wide) for row in range(rows) for column in range(columns)
            for high in range(1, rows - row + 1) for wide in range(1, columns - column + 1)]


def standing(rows, columns, walls, fold):
    """The places of a rectangle's hurdles, by the lines between the rows and between the columns.

    A line's number tells the place alone, not the cell from which it's seen.
    """
    row, column, high, wide = fold
    above, below, left, right = row, row + high, column, column + wide
    lying = [line for line in (above, below)
             if not (line == 0 and "above" in walls) and not (line == rows and "below" in walls)]
    upright = [line for line in (left, right)
               if not (line == 0 and "left" in walls) and not (line == columns and "right" in walls)]
    return ({("lying", line, c) for line in lying for c in range(left, right)}
            | {("upright", line, r) for line in upright for r in range(above, below)})


def raw(*calls):
    handed = [number for call in calls for number in call]
    return answers(handed)


def run(*calls):
    """What each call answers, without how many numbers these are."""
    given_back = raw(*calls)
    found = []
    place = 0
    while place < len(given_back):
        end = place + 1 + given_back[place]
        if end > len(given_back):
            raise AssertionError(f"an answer is cut off: {given_back}")
        found.append(given_back[place + 1:end])
        place = end
    if len(found) != len(calls):
        raise AssertionError(f"{len(calls)} calls, {len(found)} answers")
    return found


def last(*calls):
    return run(*calls)[-1]


def run_many(begin, calls):
    """What each call answers on the same beginning, in lists of at most 100 calls."""
    found = []
    for start in range(0, len(calls), 99):
        found += run(begin, *calls[start:start + 99])[1:]
    return found
