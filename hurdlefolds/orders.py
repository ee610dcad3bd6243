"""The table over sets of days, and the order in which fewest hurdles are carried."""

from hurdlefolds.carrying import all_places, carried


class Table:
    # first and steps are what a day carries at the beginning and behind another day; bits are what
    # the days add to a set's number; lines are the table, a line for each set, None for none.
    def __init__(self, field):
        places = all_places(field)
        self.first = [len(needed) for needed in places]
        self.steps = []
        self.bits = []
        self.sets = 1
        for standing in places:
            self.steps.append([carried(standing, needed) for needed in places])
            self.bits.append(self.sets)
            self.sets *= 2
        self.lines = []
        # Each set without one of its days has a lower number, so its line is there already.
        for number in range(self.sets):
            self.lines.append(self.line_of(number))

    def line_of(self, number):
        return [self.least_ending(number, day) for day in range(len(self.bits))]

    def least_ending(self, number, day):
        if number & self.bits[day] == 0:
            return None
        rest = number - self.bits[day]
        if rest == 0:
            return self.first[day]
        line = self.lines[rest]
        return min([line[other] + self.steps[other][day] for other in range(len(line)) if line[other] is not None])

    # onward is what is carried from each day to what comes behind the set; the least pair has the least day.
    def last_day(self, number, onward):
        ranked = []
        for day, least in enumerate(self.lines[number]):
            if least is not None:
                ranked.append((least + onward[day], day))
        return min(ranked)[1]

    # Of several orders the one with the least last day is asked for, so the days are found from the last one on.
    def best_order(self):
        backward = []
        onward = [0] * len(self.bits)
        number = self.sets - 1
        while number > 0:
            day = self.last_day(number, onward)
            backward.append(day)
            number -= self.bits[day]
            onward = [step[day] for step in self.steps]
        return list(reversed(backward))

    def fewest(self):
        return min(self.lines[self.sets - 1], default=0)
