"""The spare values of a form, and how many bits it takes to tell codes."""


def bits_for(codes):
    return (codes - 1).bit_length()


# Of `width` bits from bit `at` on, the `left` values from `first` on.
class Spare:
    def __init__(self, at, width, first, left):
        self.at = at
        self.width = width
        self.first = first
        self.left = left

    def moved(self, by):
        return Spare(self.at + by, self.width, self.first, self.left)

    def without(self, taken):
        return Spare(self.at, self.width, self.first + taken, self.left - taken)

    def bits_with(self, number):
        return (self.first + number) << self.at


def codes_to_spare(width, codes):
    return Spare(0, width, codes, (1 << width) - codes)


def nothing_spare():
    return Spare(0, 0, 0, 0)


# Only a part with more than all before it takes their place, so the first of several stays.
def greatest_spare(parts):
    greatest = nothing_spare()
    offset = 0
    for part in parts:
        if part.spare.left > greatest.left:
            greatest = part.spare.moved(offset)
        offset += part.bits
    return greatest
