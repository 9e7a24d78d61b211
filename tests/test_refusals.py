"""-1, -2, -5 and -4, in this order, at dec, pack and unpack."""

import unittest

from tests.helper import FAILED, OVER, UNDER, WORKED, ask, dec, enc, field, load, niche, pack, rank, sizes, unpack

BEYOND = (2, 3, -1, -2, OVER, UNDER)
READERS = (dec, unpack)
WRONG_ROWS = ([], [0], [0, 0, 0], [256, 0], [0, -1], [UNDER], [255, 255])


class InTheirOrder(unittest.TestCase):
    def test_no_records_ahead_of_all(self):
        for call in (dec, pack, unpack):
            for r in (0, 1, -1, OVER, UNDER):
                for row in ([10, 1], *WRONG_ROWS):
                    self.assertEqual(ask(call(r, *row), load(FAILED), call(r, *row)), [[-1], [0, 2, 0], [-1]])

    def test_no_such_record_ahead_of_wrong_lists(self):
        for call in (dec, pack, unpack):
            for r in BEYOND:
                for row in ([10, 1], *WRONG_ROWS):
                    self.assertEqual(ask(load(WORKED), call(r, *row))[1], [-2], (call, r, row))

    def test_a_wrong_length_with_no_byte_in_it_is_minus_5(self):
        for call in READERS:
            for row in ([256], [-1], [300, 300, 300], [OVER] * 5, [UNDER] * 2000, [-1, 256, -1]):
                self.assertEqual(ask(load(WORKED), call(1, *row))[1], [-5], (call, row))

    def test_no_byte_stands_ahead_of_no_value(self):
        # The other byte alone would be of no value.
        for call in READERS:
            for row in ([11, 256], [11, -1], [256, 255], [-1, 255], [255, OVER], [UNDER, 255], [255, 256]):
                self.assertEqual(ask(load(WORKED), call(1, *row))[1], [-5], (call, row))


class NotSuchBytes(unittest.TestCase):
    def test_another_number_of_them(self):
        for call in READERS:
            for row in ([], [10], [10, 1, 0], [0] * 2000, [255] * 3):
                self.assertEqual(ask(load(WORKED), call(1, *row))[1], [-5], (call, row))

    def test_what_is_no_byte(self):
        for call in READERS:
            for wrong in (256, -1, 257, -256, OVER, UNDER):
                for row in ([wrong, 1], [10, wrong], [wrong, wrong]):
                    self.assertEqual(ask(load(WORKED), call(1, *row))[1], [-5], (call, row))
            told = ask(load(field("from 0 to 255")), call(0, 255), call(0, 0), call(0, 256), call(0, -1))
            self.assertEqual(told[1:], [[1, 255], [1, 0], [-5], [-5]])

    def test_no_bytes_are_asked_for_where_there_are_no_bits(self):
        for kind, value in (("from 5 to 5", [5]), ("many 3 from -2 to -2", [-2] * 3)):
            for call in READERS:
                told = ask(load(field(kind)), call(0), call(0, 0), call(0, 255), call(0, 256), call(0, 0, 0))
                self.assertEqual(told[1:], [[len(value)] + value, [-5], [-5], [-5], [-5]])

    def test_each_asks_for_its_own_size(self):
        kind = "many 3 from 0 to 4"  # 9 bits in its form, 7 packed
        told = ask(load(field(kind)), dec(0, 0, 0), dec(0, 0), unpack(0, 0), unpack(0, 0, 0))
        self.assertEqual(told[1:], [[3, 0, 0, 0], [-5], [3, 0, 0, 0], [-5]])


class TheObjectStays(unittest.TestCase):
    def test_as_it_was_behind_each_refusal(self):
        fine = [sizes(1), niche(1), enc(1, 0, 0, 1, 5), dec(1, 10, 1), pack(1, 1, 4, -3, 1, 2, 0, 5), unpack(1, 27, 3),
                rank()]
        for wrong in (dec(9, 1), dec(1, 1), dec(1, 11, 1), pack(-1), pack(1), unpack(2), unpack(1, 256, 0),
                      unpack(1, 255, 7)):
            told = ask(load(WORKED), *fine, wrong, *fine)
            self.assertLess(told[8][0], 0)
            self.assertEqual(told[1:8], told[9:])

    def test_behind_a_load_that_failed(self):
        told = ask(load(WORKED), load(FAILED), dec(1, 10, 1), pack(0, 9, 3), unpack(0, 69))
        self.assertEqual(told[2:], [[4, 0, 0, 1, 5], [1, 69], [2, 9, 3]])

    def test_a_second_load_takes_the_place_of_all(self):
        calls = [dec(0, 1), pack(0, 2), unpack(0, 1), dec(1, 10, 1), pack(1), unpack(1, 27, 3)]
        told = ask(load(WORKED), load(field("from 0 to 2")), *calls)
        self.assertEqual(told[2:], [[1, 1], [1, 2], [1, 1], [-2], [-2], [-2]])


if __name__ == "__main__":
    unittest.main()
