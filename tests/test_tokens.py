"""Texts and tokens: fault 2, blanks and remarks."""

import unittest

from tests.helper import loaded, field

FINE = [1, 1, 1]


def with_name(name):
    return "record R { " + name + " : from 0 to 1 ; }"


def with_last(number):
    return field("from 0 to " + number)


class Names(unittest.TestCase):
    def test_letters_and_digits(self):
        for name in ("a", "Z", "a1", "A9z", "z" * 16, "a" + "0" * 15, "Record", "froms", "to2"):
            self.assertEqual(loaded(with_name(name)), FINE, name)

    def test_sixteen_bytes_and_seventeen(self):
        self.assertEqual(loaded(with_name("a" * 16)), FINE)
        self.assertEqual(loaded(with_name("a" * 17)), [0, 2, 11])
        self.assertEqual(loaded(with_name("a" + "7" * 16)), [0, 2, 11])
        self.assertEqual(loaded("record " + "R" * 17 + " { }"), [0, 2, 7])

    def test_words_are_no_names(self):
        for word in "record from to at maybe many one hot layout size of".split():
            self.assertEqual(loaded(with_name(word)), [0, 3, 11], word)

    def test_words_go_as_far_as_letters_and_digits_do(self):
        self.assertEqual(loaded("recordR { }"), [0, 3, 0])
        self.assertEqual(loaded(field("from0 to 1")), [0, 6, 15])
        self.assertEqual(loaded(field("many2 from 0 to 1")), [0, 6, 15])

    def test_underscore_is_of_no_name(self):
        self.assertEqual(loaded(with_name("a_b")), [0, 2, 12])


class Numbers(unittest.TestCase):
    def test_greatest_number_is_a_token(self):
        self.assertEqual(loaded(with_last("1000000000")), [0, 7, 25])
        self.assertEqual(loaded(with_last("1000000001")), [0, 2, 25])
        self.assertEqual(loaded(with_last("9999999999")), [0, 2, 25])
        self.assertEqual(loaded(with_last("10000000000")), [0, 2, 25])
        self.assertEqual(loaded(with_last("9" * 4000)), [0, 2, 25])

    def test_needless_zero(self):
        self.assertEqual(loaded(with_last("0")), FINE)
        self.assertEqual(loaded(with_last("10")), FINE)
        for number in ("00", "01", "007", "0000000000000"):
            self.assertEqual(loaded(with_last(number)), [0, 2, 25], number)

    def test_digits_end_where_a_letter_begins(self):
        self.assertEqual(loaded("record R{f:from 0to 9at 8hot 2;}"), FINE)


class Blanks(unittest.TestCase):
    TOKENS = "record R { f : many 2 one { a : from - 3 to 9 at 8 , b : maybe from 0 to 1 } hot 3 ; }".split()

    def test_blanks_and_remarks_between_any_two_tokens_and_at_both_ends(self):
        for blank in (" ", "\t", "\n", " \t\n ", "#\n", "# a remark { ; 007 \xff ?\n", "#one\n#two\n", " # # \n\t"):
            text = blank + blank.join(self.TOKENS) + blank
            self.assertEqual(loaded(text), [1, 1, 8], repr(blank))

    def test_a_remark_ends_at_the_texts_end(self):
        self.assertEqual(loaded(field("from 0 to 1") + "#"), FINE)
        self.assertEqual(loaded(field("from 0 to 1") + "# record Q {"), FINE)
        self.assertEqual(loaded("# all a remark"), [0, 3, 14])

    def test_remarks_and_blanks_part_tokens(self):
        self.assertEqual(loaded("rec#\nord R { f : from 0 to 1 ; }"), [0, 3, 0])
        self.assertEqual(loaded("record R { f : from 0 to 1 0 ; }"), [0, 3, 27])
        self.assertEqual(loaded("record R { f#\ng : from 0 to 1 ; }"), [0, 3, 14])

    def test_needless_blanks_may_be_left_out(self):
        self.assertEqual(loaded("record R{f:one{a:from-3to-1,b:many 2from 0to 1};}"), [1, 1, 4])

    def test_other_bytes_are_no_blanks(self):
        for byte in (0, 11, 12, 13, 160):
            self.assertEqual(loaded([byte] + [ord(sign) for sign in field("from 0 to 1")]), [0, 2, 0], byte)


class OtherBytes(unittest.TestCase):
    def test_every_byte_that_begins_no_token(self):
        fine = [ord(sign) for sign in
                " \t\n#{},;:-.0123456789abcdefghijklmnopqrstuvwxyzABCDEFGHIJKLMNOPQRSTUVWXYZ"]
        for byte in range(256):
            code = loaded([ord("}"), byte])[1]
            self.assertEqual(code, 3 if byte in fine else 2, byte)

    def test_the_first_one_counts_and_stands_ahead_of_all_later_kinds_of_faults(self):
        self.assertEqual(loaded("} ?"), [0, 2, 2])
        self.assertEqual(loaded("record R { f : Q ; } ? 007"), [0, 2, 21])
        self.assertEqual(loaded("record R { f : Q ; } 007 ?"), [0, 2, 21])
        self.assertEqual(loaded("record R { } " + "a" * 17), [0, 2, 13])

    def test_the_point_is_a_token_that_is_allowed_nowhere(self):
        self.assertEqual(loaded("."), [0, 3, 0])
        self.assertEqual(loaded("record R { f.g : from 0 to 1 ; }"), [0, 3, 12])


if __name__ == "__main__":
    unittest.main()
