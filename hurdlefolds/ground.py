"""The field: how large it is, where it is walled, and its days."""

ABOVE = 0
RIGHT = 1
BELOW = 2
LEFT = 3
SIDE_WORDS = ("above", "right", "below", "left")

MOST_LINES = 8
MOST_DAYS = 20


class Field:
    # walls has a 1 for each walled side, so that walls can be counted by adding.
    # A day is its fold: upper row, left column, how many rows, how many columns.
    def __init__(self):
        self.rows = 1
        self.columns = 1
        self.walls = [0, 0, 0, 0]
        self.days = []

    def become(self, other):
        self.rows = other.rows
        self.columns = other.columns
        self.walls = list(other.walls)
        self.days = list(other.days)
