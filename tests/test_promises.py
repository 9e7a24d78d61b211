"""The promises, over many small kinds and all values of each."""

import itertools
import unittest

from tests.helper import dec, enc, niche, pack, rank, sizes, unpack
from tests.model import ask_all, count, flat, number, row_of, shared, small_kinds, text_of, values


def measured(kind):
    """Sizes, niche, and the answers of enc for all values."""
    text, r = text_of(kind)
    told = ask_all(text, [sizes(r), niche(r)] + [enc(r, *value) for value in values(kind)])
    return text, told[0], told[1], told[2:]


class Promises(unittest.TestCase):
    def test_small_kinds(self):
        kinds = small_kinds()
        self.assertGreater(len(kinds), 300)
        for kind in kinds:
            text, four, spare, told = measured(kind)
            with self.subTest(text=text):
                self.assertEqual(len(told), count(kind))
                self.check_sizes(kind, four)
                self.check_bits(four[3], told)
                self.check_spare(four[3], spare, told)

    def check_sizes(self, kind, four):
        self.assertEqual(four[0:3], [1, flat(kind), shared(kind)])
        self.assertGreaterEqual(four[1], four[2])
        self.assertGreaterEqual(four[2], four[3])
        self.assertGreaterEqual(four[3], four[4])
        many = count(kind)
        self.assertGreaterEqual(2 ** four[4], many)
        self.assertTrue(four[4] == 0 or 2 ** (four[4] - 1) < many)

    def check_bits(self, bits, told):
        self.assertEqual(len({tuple(row) for row in told}), len(told))
        for row in told:
            self.assertEqual(row[0], (bits + 7) // 8)
            self.assertEqual(len(row), row[0] + 1)
            self.assertLess(int.from_bytes(bytes(row[1:]), "little"), 2 ** bits)

    def check_spare(self, bits, spare, told):
        self.assertEqual(spare[0], bits)
        if spare[1] == 0:
            self.assertEqual(len(spare), 2)
            return
        many, at, width, first = spare[1:]
        self.assertGreater(many, 0)
        self.assertLessEqual(at + width, bits)
        self.assertLessEqual(first + many, 2 ** width)
        for row in told:
            there = int.from_bytes(bytes(row[1:]), "little") >> at & (2 ** width - 1)
            self.assertFalse(first <= there < first + many)


class ReadBack(unittest.TestCase):
    """Every list of bytes of the right length: a value just where enc of it answers these, else -4."""

    def check_all_bytes(self, kind):
        text, r = text_of(kind)
        of_row = {}
        for value, told in zip(values(kind), ask_all(text, [enc(r, *value) for value in values(kind)])):
            of_row[tuple(told[1:])] = [len(value)] + value
            room = told[0]
        rows = list(itertools.product(range(256), repeat=room))
        found = ask_all(text, [dec(r, *row) for row in rows])
        for row, told in zip(rows, found):
            self.assertEqual(told, of_row.get(row, [-4]), (text, row))
        self.assertEqual(sum(told != [-4] for told in found), count(kind))

    def test_small_kinds_of_no_byte_and_of_one(self):
        checked = 0
        for kind in small_kinds():
            text, r = text_of(kind)
            if ask_all(text, [sizes(r)])[0][3] <= 8:
                self.check_all_bytes(kind)
                checked += 1
        self.assertGreater(checked, 200)

    def test_some_of_two_bytes(self):
        few = number(0, 4)
        pair = ("record", [number(0, 3), few, number(0, 7)])
        for kind in (
            ("many", 3, ("maybe", few)),
            ("maybe", ("maybe", ("record", [number(0, 127), few, number(0, 1)]))),
            ("one", [number(6, 6), ("many", 2, pair), ("many", 1, number(6, 6))]),
            ("one", [("many", 2, few), pair, number(6, 6)]),
        ):
            self.check_all_bytes(kind)


class Packed(unittest.TestCase):
    """All values are numbered from 0, in order, and told in the fewest bits."""

    def test_small_kinds(self):
        for kind in small_kinds():
            told = values(kind)
            text, r = text_of(kind)
            bits = ask_all(text, [sizes(r)])[0][4]
            rows = [row_of(place, bits) for place in range(len(told))]
            with self.subTest(text=text):
                self.assertEqual(ask_all(text, [pack(r, *value) for value in told]), [[len(row)] + row for row in rows])
                self.assertEqual(ask_all(text, [unpack(r, *row) for row in rows]),
                                 [[len(value)] + value for value in told])
                self.check_beyond(text, r, len(told), bits)

    def check_beyond(self, text, r, many, bits):
        greatest = 256 ** ((bits + 7) // 8) - 1
        calls = [unpack(r, *row_of(place, bits)) for place in (many, many + 1, greatest) if many <= place <= greatest]
        self.assertEqual(ask_all(text, calls), [[-4]] * len(calls))


class Ranked(unittest.TestCase):
    def test_small_kinds(self):
        for kind in small_kinds()[::7]:
            text, r = text_of(kind)
            told = ask_all(text, [rank()] + [sizes(n) for n in range(r + 1)])
            self.assertEqual(told[0], [r + 1] + [size for four in told[1:] for size in four[1:]])


if __name__ == "__main__":
    unittest.main()
