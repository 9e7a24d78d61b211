"""dec: the value with these bytes in its record's form, and bytes that are no value's."""

import unittest

from tests.helper import WORKED, ask, dec, enc, field, load

Z = "from 5 to 5"  # one value alone
NAMED = "record P { x : from 0 to 3 ; y : from 0 to 4 ; z : from 0 to 7 ; } "


def dec_of(kind, *row):
    return ask(load(field(kind)), dec(0, *row))[1]


class Values(unittest.TestCase):
    def check(self, kind, *pairs):
        for row, value in pairs:
            self.assertEqual(dec_of(kind, *row), [len(value)] + value, (kind, row))

    def test_numbers(self):
        self.check("from 0 to 1", ([0], [0]), ([1], [1]))
        self.check("from -3 to 3", ([0], [-3]), ([3], [0]), ([6], [3]))
        self.check("from 100 to 355", ([0], [100]), ([255], [355]))
        self.check("from 0 to 256", ([255, 0], [255]), ([0, 1], [256]))
        self.check("from -1000000 to 1000000", ([128, 132, 30], [1000000]), ([0, 0, 0], [-1000000]))

    def test_a_form_without_bits(self):
        self.check(Z, ([], [5]))
        self.check("many 8 " + Z, ([], [5] * 8))
        self.check("many 2 many 3 from -7 to -7", ([], [-7] * 6))
        told = ask(load("record P { a : from 1 to 1 ; b : from 2 to 2 ; } record R { p : P ; q : P ; }"), dec(1))
        self.assertEqual(told[1], [4, 1, 2, 1, 2])

    def test_maybe_by_a_spare_value(self):
        self.check("maybe from 0 to 9", ([10], [0]), ([0], [1, 0]), ([9], [1, 9]))
        self.check("maybe maybe from 0 to 9", ([11], [0]), ([10], [1, 0]), ([9], [1, 1, 9]))

    def test_maybe_by_a_bit(self):
        self.check("maybe from 0 to 7", ([0], [0]), ([1], [1, 0]), ([15], [1, 7]))
        self.check("maybe " + Z, ([0], [0]), ([1], [1, 5]))
        self.check("maybe maybe from -3 to 3", ([0], [0]), ([15], [1, 0]), ([1], [1, 1, -3]), ([13], [1, 1, 3]))

    def test_many_and_record_with_the_first_part_lowest(self):
        self.check("many 3 from 0 to 9", ([33, 3], [1, 2, 3]), ([9, 9], [9, 0, 9]))
        text = "record R { a : from 0 to 2 ; b : from 5 to 5 ; c : from 0 to 2 ; d : many 2 from 0 to 4 ; }"
        self.assertEqual(ask(load(text), dec(0, 54, 2))[1], [5, 2, 5, 1, 3, 4])

    def test_one_by_spare_values(self):
        kind = f"one {{ a : {Z}, b : {Z}, c : from 0 to 4, d : {Z} }}"
        self.check(kind, ([5], [0, 5]), ([6], [1, 5]), ([0], [2, 0]), ([4], [2, 4]), ([7], [3, 5]))
        self.check("one { a : from 0 to 9, b : many 2 from 5 to 5 }", ([9], [0, 9]), ([10], [1, 5, 5]))

    def test_spare_values_that_are_not_lowest(self):
        told = ask(load(NAMED + "record R { p : maybe P ; }"), dec(1, 20), dec(1, 243))
        self.assertEqual(told[1:], [[1, 0], [4, 1, 3, 4, 7]])
        told = ask(load(NAMED + "record R { p : one { n : from 5 to 5, p : P, q : from 6 to 6 } ; }"),
                   dec(1, 20), dec(1, 243), dec(1, 24))
        self.assertEqual(told[1:], [[2, 0, 5], [4, 1, 3, 4, 7], [2, 2, 6]])

    def test_one_by_a_tag(self):
        self.check("one { a : from 0 to 4, b : from 0 to 1 }", ([8], [0, 4]), ([1], [1, 0]), ([3], [1, 1]))
        kind = f"one {{ a : from 0 to 5, b : {Z}, c : {Z}, d : {Z} }}"
        self.check(kind, ([20], [0, 5]), ([1], [1, 5]), ([2], [2, 5]), ([3], [3, 5]))

    def test_the_greatest_form(self):
        bits = sum((n * 83333) << (21 * n) for n in range(24))
        told = dec_of("many 3 many 8 from -1000000 to 1000000", *bits.to_bytes(63, "little"))
        self.assertEqual(told, [24] + [n * 83333 - 1000000 for n in range(24)])

    def test_worked_values(self):
        told = ask(load(WORKED), dec(1, 10, 1), dec(1, 11, 1), dec(1, 132, 2), dec(0, 105))
        self.assertEqual(told[1:], [[4, 0, 0, 1, 5], [-4], [7, 1, 4, -3, 1, 2, 0, 5], [2, 9, 3]])


class NoValues(unittest.TestCase):
    def refuse(self, kind, *rows):
        for row in rows:
            self.assertEqual(dec_of(kind, *row), [-4], (kind, row))

    def test_a_bit_above_the_forms(self):
        self.refuse("from 0 to 1", [2], [3], [128], [129], [255])
        self.refuse("many 3 from 0 to 7", [0, 2], [0, 128], [255, 255])
        self.refuse("maybe from 0 to 7", [16], [17], [128], [129])
        self.refuse("maybe from 0 to 9", [26], [16], [138])
        self.refuse(f"one {{ a : {Z}, b : from 0 to 9 }}", [26], [16], [128])
        self.refuse("one { a : from 0 to 7, b : from 0 to 1 }", [16], [17], [32], [128])
        self.refuse("many 1 many 1 maybe " + Z, [2], [3], [128])

    def test_bits_that_are_not_needed(self):
        self.refuse("one { a : from 0 to 7, b : from 0 to 1 }", [5], [7], [9], [13], [15])
        kind = f"one {{ a : from 0 to 5, b : {Z}, c : {Z}, d : {Z} }}"
        self.refuse(kind, [5], [6], [7], [9], [17], [31])
        self.refuse(f"one {{ a : maybe {Z}, b : maybe {Z}, c : from 0 to 63 }}", [8], [9], [132], [129])
        self.refuse("maybe from 0 to 7", [2], [4], [8], [14])
        self.refuse("maybe " + Z, [2])
        self.refuse("maybe maybe " + Z, [2], [4])

    def test_other_bits_beside_a_spare_value(self):
        # Bits 2 to 4 have the spare value 5, 6 or 7, the others are not all 0.
        rows = [20 + 1, 20 + 2, 20 + 3, 20 + 32, 20 + 128, 255 - 8]
        for row in rows:
            self.assertEqual(ask(load(NAMED + "record R { p : maybe P ; }"), dec(1, row))[1], [-4], row)
        text = NAMED + "record R { p : one { n : from 5 to 5, p : P, q : from 6 to 6 } ; }"
        for row in rows + [24 + 1, 24 + 2, 24 + 32, 24 + 128]:
            self.assertEqual(ask(load(text), dec(1, row))[1], [-4], row)
        self.refuse("maybe many 2 from 0 to 9", [26], [106], [170])

    def test_a_code_beyond_the_last_one(self):
        self.refuse("from -3 to 3", [7])
        self.refuse("from 0 to 9", [10], [15])
        self.refuse("from 0 to 1000000", [65, 66, 15], [255, 255, 15])
        self.refuse("many 2 from 0 to 4", [5], [40], [45], [63])
        self.assertEqual(ask(load(NAMED), dec(0, 20), dec(0, 16), dec(0, 255))[1:], [[-4], [3, 0, 4, 0], [-4]])

    def test_a_tag_that_is_no_alternatives_number(self):
        bit = "from 0 to 1"
        self.refuse(f"one {{ a : {bit}, b : {bit}, c : {bit} }}", [3], [7])
        self.refuse(f"one {{ a : {Z}, b : {Z}, c : {Z} }}", [3])
        self.refuse(f"many 2 one {{ a : {Z}, b : {Z}, c : {Z} }}", [3], [12], [15], [13])

    def test_a_spare_value_that_is_left(self):
        self.refuse("maybe from 0 to 9", [11], [12], [15])
        self.refuse("maybe maybe from 0 to 9", [12], [15])
        self.refuse(f"one {{ a : {Z}, b : from 0 to 9, c : {Z} }}", [12], [13], [15])
        told = ask(load(NAMED + "record R { p : maybe P ; }"), dec(1, 24), dec(1, 28))
        self.assertEqual(told[1:], [[-4], [-4]])

    def test_refused_within_others(self):
        self.refuse("many 2 maybe from 0 to 3", [2], [16], [2 + 8 + 16])
        self.refuse("one { a : maybe from 0 to 4, b : from 0 to 1 }", [12], [14])
        self.refuse("maybe one { a : from 0 to 7, b : from 0 to 1 }", [2 + 1 + 8], [1 + 2 + 16])


class ReadBack(unittest.TestCase):
    def test_enc_then_dec_at_one_object(self):
        value = [1, 4, -3, 1, 2, 0, 5]
        told = ask(load(WORKED), enc(1, *value), dec(1, 132, 2), enc(1, *value))
        self.assertEqual(told[1:], [[2, 132, 2], [7] + value, [2, 132, 2]])


if __name__ == "__main__":
    unittest.main()
