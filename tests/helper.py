"""The calls by their names, as lists of numbers, and what they answer."""

from hurdlefolds.fields import answers

LEAST = -9223372036854775808
MOST = 9223372036854775807
SIDES = ("above", "right", "below", "left")


def byted(text):
    return list(text.encode("latin-1")) if isinstance(text, str) else list(text)


def listed(number, numbers):
    return [number, len(numbers)] + list(numbers)


def clear():
    return [0]


def field(text):
    return listed(1, byted(text))


def look(text):
    return listed(2, byted(text))


def text():
    return [3]


def day(text):
    return listed(4, byted(text))


def undo(n):
    return [5, n]


def told():
    return [6]


def cost(cells):
    return listed(7, cells)


def sides(cells):
    return listed(8, cells)


def rect(a, b):
    return [9, a, b]


def best(h):
    return [10, h]


def field_text(rows, columns, walls=(), days=()):
    first = " ".join(["field", str(rows), str(columns), "walls"] + [w for w in SIDES if w in walls])
    return "\n".join([first] + [day_text(*d) for d in days])


def day_text(row, column, high, wide):
    return f"fold {row} {column} high {high} wide {wide}"


def every_walls():
    return [[SIDES[side] for side in range(4) if number >> side & 1] for number in range(16)]


def raw(*calls):
    handed = [number for call in calls for number in call]
    return answers(handed)


def run(*calls):
    """What each call answers, without how many numbers these are."""
    given_back = raw(*calls)
    found = []
    place = 0
    while place < len(given_back):
        end = place + 1 + given_back[place]
        if end > len(given_back):
            raise AssertionError(f"an answer is cut off: {given_back}")
        found.append(given_back[place + 1:end])
        place = end
    if len(found) != len(calls):
        raise AssertionError(f"{len(calls)} calls, {len(found)} answers")
    return found


def last(*calls):
    return run(*calls)[-1]
