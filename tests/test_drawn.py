"""Drawn values of drawn kinds: enc and dec, pack and unpack, there and back. The draws are the same each time."""

import random
import unittest

from tests.helper import dec, enc, niche, pack, sizes, unpack
from tests.model import ask_all, count, flat, leaves, parts_of, row_of, shared, text_of

KINDS = 300
EACH = 8
MOST_LEAVES = 24


def draw_number(source):
    first = source.choice([0, 0, 1, -1, source.randint(-1000000, 1000000)])
    codes = source.choice([1, 1, 2, 3, 4, 5, 7, 8, 10, 16, 200, 256, 1000, source.randint(1, 1000001)])
    return ("number", first, min(1000000, first + codes - 1))


def draw_kind(source, deep, records):
    """Records: how many more may be named. A named record's own kinds begin at the first level again."""
    choice = source.choice(["number", "maybe", "maybe", "many", "one", "one", "record"])
    if deep == 6 or choice == "number":
        return draw_number(source)
    if choice == "maybe":
        return ("maybe", draw_kind(source, deep + 1, records))
    if choice == "many":
        return ("many", source.randint(1, 4), draw_kind(source, deep + 1, records))
    if choice == "one":
        return ("one", [draw_kind(source, deep + 1, 0) for step in range(source.randint(2, 4))])
    if records == 0:
        return draw_number(source)
    more = [draw_kind(source, 1, 0) for step in range(source.randint(0, 2))]
    return ("record", [draw_kind(source, 1, records - 1)] + more)


def draw_value(source, kind):
    if kind[0] == "number":
        return [source.choice([kind[1], kind[2], source.randint(kind[1], kind[2])])]
    if kind[0] == "maybe":
        return source.choice([[0], [1] + draw_value(source, kind[1]), [1] + draw_value(source, kind[1])])
    if kind[0] == "one":
        n = source.randrange(len(kind[1]))
        return [n] + draw_value(source, kind[1][n])
    return [told for part in parts_of(kind) for told in draw_value(source, part)]


def drawn_kinds():
    source = random.Random(77)
    found = []
    while len(found) < KINDS:
        kind = draw_kind(source, 1, 5)
        if leaves(kind) <= MOST_LEAVES:
            found.append(kind)
    return found


def with_its_value(values):
    return [[len(value)] + value for value in values]


class ThereAndBack(unittest.TestCase):
    def setUp(self):
        self.source = random.Random(11)

    def test_enc_then_dec(self):
        for kind in drawn_kinds():
            text, r = text_of(kind)
            values = [draw_value(self.source, kind) for step in range(EACH)]
            rows = ask_all(text, [enc(r, *value) for value in values])
            self.assertEqual(ask_all(text, [dec(r, *row[1:]) for row in rows]), with_its_value(values), text)

    def test_pack_then_unpack(self):
        for kind in drawn_kinds():
            text, r = text_of(kind)
            values = sorted(draw_value(self.source, kind) for step in range(EACH))
            rows = ask_all(text, [pack(r, *value) for value in values])
            self.assertEqual(ask_all(text, [unpack(r, *row[1:]) for row in rows]), with_its_value(values), text)
            # All values in order stand as the numbers that tell them do.
            numbers = [int.from_bytes(bytes(row[1:]), "little") for row in rows]
            self.assertEqual(numbers, sorted(numbers), text)
            self.assertEqual(len(set(numbers)), len({tuple(value) for value in values}), text)

    def test_unpack_then_pack(self):
        for kind in drawn_kinds():
            text, r = text_of(kind)
            many = count(kind)
            bits = (many - 1).bit_length()
            numbers = [0, many - 1, many // 2] + [self.source.randrange(many) for step in range(EACH)]
            rows = [row_of(place, bits) for place in numbers]
            values = [told[1:] for told in ask_all(text, [unpack(r, *row) for row in rows])]
            told = ask_all(text, [pack(r, *value) for value in values])
            self.assertEqual(told, [[len(row)] + row for row in rows], text)
            if many < 256 ** len(rows[0]):
                self.assertEqual(ask_all(text, [unpack(r, *row_of(many, bits))]), [[-4]], text)

    def test_dec_of_other_bytes(self):
        for kind in drawn_kinds():
            text, r = text_of(kind)
            rows = [told[1:] for told in
                    ask_all(text, [enc(r, *draw_value(self.source, kind)) for step in range(EACH)])]
            others = [self.changed(row) for row in rows if row]
            for row, told in zip(others, ask_all(text, [dec(r, *row) for row in others])):
                if told != [-4]:
                    self.assertEqual(told[0], len(told) - 1)
                    self.assertEqual(ask_all(text, [enc(r, *told[1:])]), [[len(row)] + row], text)

    def changed(self, row):
        place = self.source.randrange(len(row))
        return row[:place] + [row[place] ^ (1 << self.source.randrange(8))] + row[place + 1:]


class Sizes(unittest.TestCase):
    def test_they_stand_side_by_side(self):
        for kind in drawn_kinds():
            text, r = text_of(kind)
            four, spare = ask_all(text, [sizes(r), niche(r)])
            self.assertEqual(four[0:3], [1, flat(kind), shared(kind)], text)
            self.assertEqual(four[3], spare[0], text)
            self.assertEqual(four[4], (count(kind) - 1).bit_length(), text)
            self.assertEqual(four[1:], sorted(four[1:], reverse=True), text)


if __name__ == "__main__":
    unittest.main()
