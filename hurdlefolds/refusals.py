"""The refusals: one error class for each, with the number that is answered."""


class Refusal(Exception):
    def __init__(self, answer):
        self.answer = answer


class NotBytes(Refusal):
    def __init__(self):
        Refusal.__init__(self, -1)


class OutOfRange(Refusal):
    def __init__(self):
        Refusal.__init__(self, -3)


class WrongList(Refusal):
    def __init__(self):
        Refusal.__init__(self, -4)


class NotThere(Refusal):
    def __init__(self):
        Refusal.__init__(self, -5)


class TooManyDays(Refusal):
    def __init__(self):
        Refusal.__init__(self, -9)


class TextFault(Refusal):
    def __init__(self, place):
        Refusal.__init__(self, -1000 - place)
        self.place = place
