"""The numbers that are to tell a value, taken one by one."""


class NoValue(Exception):
    pass


class Cursor:
    def __init__(self, numbers):
        self.numbers = numbers
        self.place = 0

    def draw(self, least, greatest):
        if self.ended():
            raise NoValue()
        number = self.numbers[self.place]
        if number < least or number > greatest:
            raise NoValue()
        self.place += 1
        return number

    def end(self):
        if not self.ended():
            raise NoValue()

    def ended(self):
        return self.place == len(self.numbers)
