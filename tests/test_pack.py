"""pack and unpack: a value as its number among all values, and back."""

import unittest

from tests.helper import WORKED, ask, field, load, pack, sizes, unpack

Z = "from 5 to 5"  # one value alone
MILLION = 1000000


class Case(unittest.TestCase):
    def check_text(self, text, r, pairs):
        """Each pair: a value's number and the value."""
        bits = ask(load(text), sizes(r))[1][4]
        for number, value in pairs:
            row = list(number.to_bytes((bits + 7) // 8, "little"))
            told = ask(load(text), pack(r, *value), unpack(r, *row))
            self.assertEqual(told[1:], [[len(row)] + row, [len(value)] + value], (text, number))

    def check(self, kind, *pairs):
        self.check_text(field(kind), 0, pairs)

    def check_all(self, kind, *values):
        self.check(kind, *enumerate(values))

    def refuse(self, kind, *rows):
        for row in rows:
            self.assertEqual(ask(load(field(kind)), unpack(0, *row))[1], [-4], (kind, row))


class Order(Case):
    def test_numbers(self):
        self.check_all("from 0 to 1", [0], [1])
        self.check_all("from -3 to 3", [-3], [-2], [-1], [0], [1], [2], [3])
        self.check("from -1000000 to 1000000", (0, [-MILLION]), (1, [1 - MILLION]), (2 * MILLION, [MILLION]))

    def test_one_value_alone(self):
        self.check_all(Z, [5])
        self.check_all("many 8 " + Z, [5] * 8)
        for kind in (Z, "many 3 " + Z):
            self.assertEqual(ask(load(field(kind)), pack(0, *[5] * (1 if kind == Z else 3)))[1], [0])
        text = "record P { a : from 1 to 1 ; b : from 2 to 2 ; } record R { p : P ; q : many 2 P ; }"
        self.check_text(text, 1, [(0, [1, 2, 1, 2, 1, 2])])

    def test_maybe(self):
        self.check_all("maybe from 2 to 4", [0], [1, 2], [1, 3], [1, 4])
        self.check_all("maybe " + Z, [0], [1, 5])

    def test_maybes_within_one_another(self):
        self.check_all("maybe maybe from 0 to 1", [0], [1, 0], [1, 1, 0], [1, 1, 1])
        self.check_all("maybe maybe maybe " + Z, [0], [1, 0], [1, 1, 0], [1, 1, 1, 5])
        self.check("maybe maybe from 0 to 255", (0, [0]), (1, [1, 0]), (2, [1, 1, 0]), (257, [1, 1, 255]))

    def test_the_last_part_of_a_many_changes_fastest(self):
        self.check_all("many 2 from 0 to 2", [0, 0], [0, 1], [0, 2], [1, 0], [1, 1], [1, 2], [2, 0], [2, 1], [2, 2])
        self.check("many 3 from 0 to 9", (1, [0, 0, 1]), (10, [0, 1, 0]), (100, [1, 0, 0]), (987, [9, 8, 7]))
        self.check("many 2 maybe from 0 to 1", (0, [0, 0]), (1, [0, 1, 0]), (3, [1, 0, 0]), (8, [1, 1, 1, 1]))

    def test_the_last_field_of_a_record_changes_fastest(self):
        text = "record R { a : from 1 to 2 ; b : from 5 to 5 ; c : from -1 to 1 ; d : maybe from 0 to 1 ; }"
        self.check_text(text, 0, [
            (0, [1, 5, -1, 0]), (1, [1, 5, -1, 1, 0]), (2, [1, 5, -1, 1, 1]), (3, [1, 5, 0, 0]), (8, [1, 5, 1, 1, 1]),
            (9, [2, 5, -1, 0]), (17, [2, 5, 1, 1, 1]),
        ])

    def test_alternatives_with_different_numbers_of_values(self):
        kind = f"one {{ a : from 0 to 2, b : {Z}, c : many 2 from 0 to 1, d : maybe {Z} }}"
        self.check_all(kind, [0, 0], [0, 1], [0, 2], [1, 5], [2, 0, 0], [2, 0, 1], [2, 1, 0], [2, 1, 1],
                       [3, 0], [3, 1, 5])
        self.check("one { a : from 0 to 999999, b : from 7 to 8 }",
                   (0, [0, 0]), (MILLION - 1, [0, MILLION - 1]), (MILLION, [1, 7]), (MILLION + 1, [1, 8]))
        kind = f"one {{ a : {Z}, b : one {{ a : {Z}, b : from 0 to 1 }} }}"
        self.check_all(kind, [0, 5], [1, 0, 5], [1, 1, 0], [1, 1, 1])

    def test_named_records(self):
        text = ("record P { x : from 0 to 1 ; y : from 0 to 2 ; } record Q { a : maybe P ; b : P ; } "
                "record R { q : many 2 Q ; }")
        self.check_text(text, 1, [(0, [0, 0, 0]), (5, [0, 1, 2]), (6, [1, 0, 0, 0, 0]), (41, [1, 1, 2, 1, 2])])
        self.check_text(text, 2, [(41, [0, 0, 0, 1, 1, 2, 1, 2]), (42, [0, 0, 1, 0, 0, 0]),
                                  (42 * 42 - 1, [1, 1, 2, 1, 2] * 2)])


class VeryMany(Case):
    KIND = "many 3 many 8 from -1000000 to 1000000"
    EACH = 2 * MILLION + 1

    def test_far_beyond_64_bits(self):
        least = [-MILLION] * 24
        self.check(self.KIND, (0, least), (1, least[1:] + [1 - MILLION]),
                   (self.EACH, least[2:] + [1 - MILLION, -MILLION]), (self.EACH ** 23, [1 - MILLION] + least[1:]), (self.EACH ** 24 - 1, [MILLION] * 24))
        value = [n * 83333 - MILLION for n in range(24)]
        self.check(self.KIND, (sum(n * 83333 * self.EACH ** (23 - n) for n in range(24)), value))

    def test_the_first_number_beyond(self):
        for beyond in (self.EACH ** 24, self.EACH ** 24 + 1, 256 ** 63 - 1):
            self.refuse(self.KIND, list(beyond.to_bytes(63, "little")))

    def test_parts_of_different_sizes(self):
        text = ("record P { a : many 8 from 0 to 1000000 ; } "
                "record R { a : from 0 to 9 ; p : maybe P ; z : from 0 to 2 ; }")
        many = (MILLION + 1) ** 8 + 1
        self.check_text(text, 1, [
            (2, [0, 0, 2]), (3, [0, 1] + [0] * 9), (3 * many, [1, 0, 0]), (30 * many - 1, [9, 1] + [MILLION] * 8 + [2]),
            (3 * (many * 7 + 1 + 5), [7, 1] + [0] * 7 + [5, 0]),
        ])


class Bytes(Case):
    def test_as_few_as_have_room_for_the_packed_bits(self):
        for kind, value, told in (
            ("from 0 to 255", [255], [1, 255]),
            ("from 0 to 256", [256], [2, 0, 1]),
            ("from 0 to 256", [0], [2, 0, 0]),
            ("many 2 from 0 to 14", [14, 14], [1, 224]),  # the form has 8 bits, packed has 8
            ("many 3 from 0 to 4", [4, 4, 4], [1, 124]),  # the form has 9 bits, packed has 7
            ("many 3 from 0 to 4", [0, 0, 1], [1, 1]),
        ):
            self.assertEqual(ask(load(field(kind)), pack(0, *value))[1], told, kind)

    def test_worked_values(self):
        told = ask(load(WORKED), pack(1, 1, 4, -3, 1, 2, 0, 5), unpack(1, 27, 3), unpack(1, 255, 7))
        self.assertEqual(told[1:], [[2, 27, 3], [7, 1, 4, -3, 1, 2, 0, 5], [-4]])

    def test_the_last_number_and_the_first_beyond(self):
        for kind, last in (("from 0 to 9", 9), ("maybe from 0 to 9", 10), ("many 2 from 0 to 4", 24),
                           ("one { a : from 0 to 4, b : from 0 to 1 }", 6), ("many 3 from 0 to 9", 999),
                           (f"one {{ a : {Z}, b : {Z}, c : {Z} }}", 2), ("from 0 to 1", 1)):
            room = (last.bit_length() + 7) // 8
            told = ask(load(field(kind)), unpack(0, *last.to_bytes(room, "little")))[1]
            self.assertGreater(told[0], 0)
            self.assertEqual(told[0], len(told) - 1)
            self.refuse(kind, list((last + 1).to_bytes(room, "little")), [255] * room)

    def test_every_number_may_have_a_value(self):
        self.check("from 0 to 255", (0, [0]), (255, [255]))
        self.check("many 2 from -128 to 127", (65535, [127, 127]), (256, [-127, -128]))

    def test_a_bit_above_the_packed_ones(self):
        self.refuse("from 0 to 1", [2], [3], [128], [129])
        self.refuse("many 3 from 0 to 7", [0, 2], [0, 128], [255, 3])


class NoValues(Case):
    def refuse_pack(self, kind, *values):
        for value in values:
            self.assertEqual(ask(load(field(kind)), pack(0, *value))[1], [-4], (kind, value))

    def test_too_short_and_too_long(self):
        self.refuse_pack("from 0 to 1", [], [0, 0], [0] * 2000)
        self.refuse_pack("maybe from 0 to 1", [], [1], [0, 0], [1, 1, 1])
        self.refuse_pack("many 3 from 0 to 1", [], [0], [0, 0], [0, 0, 0, 0])
        self.refuse_pack(f"one {{ a : {Z}, b : many 2 from 0 to 1 }}", [], [0], [1], [1, 0], [0, 5, 5], [1, 0, 0, 0])
        self.refuse_pack(Z, [], [5, 5])

    def test_out_of_bounds(self):
        self.refuse_pack("from -3 to 3", [-4], [4], [-10 ** 18], [10 ** 18])
        self.refuse_pack(Z, [4], [6], [0])
        self.refuse_pack("maybe from 2 to 9", [1, 1], [1, 10])
        self.refuse_pack("many 2 from 0 to 9", [0, 10], [10, 0], [-1, 0])
        self.refuse_pack(f"one {{ a : {Z}, b : from 0 to 4 }}", [0, 4], [0, 0], [1, 5], [1, -1])

    def test_a_wrong_tag(self):
        self.refuse_pack("maybe from 0 to 9", [2], [2, 5], [-1], [-1, 5])
        self.refuse_pack(f"one {{ a : from 0 to 4, b : {Z} }}", [2, 5], [-1, 5], [2], [-10 ** 18], [10 ** 18])
        self.refuse_pack("one { a : from 0 to 4, b : from 0 to 4, c : from 0 to 4 }", [3, 0], [-1, 0])


if __name__ == "__main__":
    unittest.main()
