"""enc: a value's bytes in its record's form, and what is no value."""

import unittest

from tests.helper import FAILED, OVER, UNDER, WORKED, ask, enc, enc_of, field, load

Z = "from 5 to 5"  # one value alone


class Values(unittest.TestCase):
    def check(self, kind, *pairs):
        for value, told in pairs:
            self.assertEqual(enc_of(kind, *value), told, (kind, value))

    def test_numbers(self):
        self.check(Z, ([5], [0]))
        self.check("from 0 to 1", ([0], [1, 0]), ([1], [1, 1]))
        self.check("from -3 to 3", ([-3], [1, 0]), ([0], [1, 3]), ([3], [1, 6]))
        self.check("from 100 to 355", ([100], [1, 0]), ([355], [1, 255]))
        self.check("from 0 to 256", ([255], [2, 255, 0]), ([256], [2, 0, 1]))
        self.check("from -1000000 to 1000000", ([1000000], [3, 128, 132, 30]), ([-1000000], [3, 0, 0, 0]))

    def test_maybe_by_a_spare_value(self):
        self.check("maybe from 0 to 9", ([0], [1, 10]), ([1, 0], [1, 0]), ([1, 9], [1, 9]))
        self.check("maybe maybe from 0 to 9", ([0], [1, 11]), ([1, 0], [1, 10]), ([1, 1, 9], [1, 9]))

    def test_maybe_by_a_bit(self):
        self.check("maybe from 0 to 7", ([0], [1, 0]), ([1, 0], [1, 1]), ([1, 7], [1, 15]))
        self.check("maybe " + Z, ([0], [1, 0]), ([1, 5], [1, 1]))
        self.check("maybe maybe from -3 to 3", ([0], [1, 0]), ([1, 0], [1, 15]), ([1, 1, -3], [1, 1]),
                   ([1, 1, 3], [1, 13]))

    def test_maybe_nothing_where_the_spare_part_is_not_lowest(self):
        text = "record P { x : from 0 to 3 ; y : from 0 to 4 ; z : from 0 to 7 ; } record R { p : maybe P ; }"
        self.assertEqual(ask(load(text), enc(1, 0), enc(1, 1, 3, 4, 7))[1:], [[1, 20], [1, 243]])

    def test_many_and_record_with_the_first_part_lowest(self):
        self.check("many 3 from 0 to 9", ([1, 2, 3], [2, 33, 3]), ([9, 0, 9], [2, 9, 9]))
        self.check("many 8 " + Z, ([5] * 8, [0]))
        text = "record R { a : from 0 to 2 ; b : from 5 to 5 ; c : from 0 to 2 ; d : many 2 from 0 to 4 ; }"
        self.assertEqual(ask(load(text), enc(0, 2, 5, 1, 3, 4))[1], [2, 54, 2])

    def test_one_by_spare_values(self):
        kind = f"one {{ a : {Z}, b : {Z}, c : from 0 to 4, d : {Z} }}"
        self.check(kind, ([0, 5], [1, 5]), ([1, 5], [1, 6]), ([2, 0], [1, 0]), ([2, 4], [1, 4]), ([3, 5], [1, 7]))
        kind = f"one {{ a : from 0 to 4, b : {Z}, c : {Z} }}"
        self.check(kind, ([0, 4], [1, 4]), ([1, 5], [1, 5]), ([2, 5], [1, 6]))
        kind = "one { a : from 0 to 9, b : many 2 from 5 to 5 }"
        self.check(kind, ([0, 9], [1, 9]), ([1, 5, 5], [1, 10]))

    def test_one_by_spare_values_that_are_not_lowest(self):
        text = ("record P { x : from 0 to 3 ; y : from 0 to 4 ; z : from 0 to 7 ; } "
                "record R { p : one { n : from 5 to 5, p : P, q : from 6 to 6 } ; }")
        self.assertEqual(ask(load(text), enc(1, 0, 5), enc(1, 1, 3, 4, 7), enc(1, 2, 6))[1:], [[1, 20], [1, 243], [1, 24]])

    def test_one_by_a_tag(self):
        self.check("one { a : from 0 to 4, b : from 0 to 1 }", ([0, 4], [1, 8]), ([1, 0], [1, 1]), ([1, 1], [1, 3]))
        kind = f"one {{ a : from 0 to 5, b : {Z}, c : {Z}, d : {Z} }}"
        self.check(kind, ([0, 5], [1, 20]), ([1, 5], [1, 1]), ([2, 5], [1, 2]), ([3, 5], [1, 3]))
        self.check(f"one {{ a : {Z}, b : {Z}, c : {Z} }}", ([0, 5], [1, 0]), ([1, 5], [1, 1]), ([2, 5], [1, 2]))

    def test_bytes_have_room_for_the_form_whatever_the_value(self):
        self.check("many 2 from 0 to 255", ([0, 0], [2, 0, 0]))
        self.check("many 3 from 0 to 7", ([0, 0, 0], [2, 0, 0]), ([7, 7, 7], [2, 255, 1]))
        told = enc_of("many 3 many 8 from -1000000 to 1000000", *[1000000] * 24)
        bits = sum(2000000 << (21 * n) for n in range(24))
        self.assertEqual(told, [63] + list(bits.to_bytes(63, "little")))

    def test_worked_values(self):
        told = ask(load(WORKED), enc(1, 1, 4, -3, 1, 2, 0, 5), enc(1, 0, 0, 1, 5), enc(0, 9, 3))
        self.assertEqual(told[1:], [[2, 132, 2], [2, 10, 1], [1, 105]])


class NoValues(unittest.TestCase):
    def refuse(self, kind, *values):
        for value in values:
            self.assertEqual(enc_of(kind, *value), [-4], (kind, value))

    def test_too_short_and_too_long(self):
        self.refuse("from 0 to 1", [], [0, 0], [1, 0, 1], [0] * 2000)
        self.refuse("maybe from 0 to 1", [], [1], [0, 0], [1, 1, 1])
        self.refuse("many 3 from 0 to 1", [], [0], [0, 0], [0, 0, 0, 0])
        self.refuse(f"one {{ a : {Z}, b : many 2 from 0 to 1 }}", [], [0], [1], [1, 0], [0, 5, 5], [1, 0, 0, 0])
        self.refuse(Z, [], [5, 5])

    def test_out_of_bounds(self):
        self.refuse("from -3 to 3", [-4], [4], [7], [UNDER], [OVER])
        self.refuse(Z, [4], [6], [0])
        self.refuse("maybe from 2 to 9", [1, 1], [1, 10])
        self.refuse("many 2 from 0 to 9", [0, 10], [10, 0], [-1, 0])
        self.refuse(f"one {{ a : {Z}, b : from 0 to 4 }}", [0, 4], [0, 0], [1, 5], [1, -1])

    def test_a_wrong_tag(self):
        self.refuse("maybe from 0 to 9", [2], [2, 5], [-1], [-1, 5], [OVER, 5])
        self.refuse(f"one {{ a : from 0 to 4, b : {Z} }}", [2, 5], [-1, 5], [2], [UNDER], [OVER])
        self.refuse("one { a : from 0 to 4, b : from 0 to 4, c : from 0 to 4 }", [3, 0], [-1, 0])

    def test_no_records_then_no_such_record_then_no_value(self):
        self.assertEqual(ask(enc(0, 5), enc(7), enc(-1, 5), load(FAILED), enc(0)), [[-1], [-1], [-1], [0, 2, 0], [-1]])
        for r in (1, 2, -1, OVER, UNDER):
            self.assertEqual(ask(load(field(Z)), enc(r, 5), enc(r, 6), enc(r))[1:], [[-2]] * 3)
        self.assertEqual(ask(load(field(Z)), enc(0, 6), enc(0, 5))[1:], [[-4], [0]])

    def test_a_refusal_leaves_the_object_as_it_was(self):
        told = ask(load(WORKED), enc(1), enc(9), enc(1, 0, 0, 1, 5), enc(1, 0, 0, 1, 6), enc(1, 0, 0, 1, 5))
        self.assertEqual(told[1:], [[-4], [-2], [2, 10, 1], [-4], [2, 10, 1]])


if __name__ == "__main__":
    unittest.main()
