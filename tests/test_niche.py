"""niche: a form's bits and its spare values."""

import unittest

from tests.helper import WORKED, ask, load, niche, niche_of

Z = "from 5 to 5"  # one value alone


class Niche(unittest.TestCase):
    def check(self, kind, *told):
        self.assertEqual(niche_of(kind), list(told), kind)

    def test_numbers(self):
        self.check(Z, 0, 0)
        self.check("from 0 to 1", 1, 0)
        self.check("from -128 to 127", 8, 0)
        self.check("from 0 to 9", 4, 6, 0, 4, 10)
        self.check("from -3 to 3", 3, 1, 0, 3, 7)
        self.check("from 100 to 102", 2, 1, 0, 2, 3)
        self.check("from 0 to 8", 4, 7, 0, 4, 9)
        self.check("from 0 to 1000000", 20, 48575, 0, 20, 1000001)

    def test_maybe_takes_the_first(self):
        self.check("maybe from 0 to 9", 4, 5, 0, 4, 11)
        self.check("maybe maybe from 0 to 9", 4, 4, 0, 4, 12)
        self.check("maybe maybe maybe maybe maybe from 0 to 10", 4, 0)
        self.check("maybe from -3 to 3", 3, 0)

    def test_maybe_without_any(self):
        self.check("maybe from 0 to 7", 4, 0)
        self.check("maybe " + Z, 1, 0)
        self.check("maybe maybe from -3 to 3", 4, 0)
        self.check("maybe maybe " + Z, 2, 0)

    def test_many_has_those_of_the_first(self):
        self.check("many 3 from 0 to 9", 12, 6, 0, 4, 10)
        self.check("many 8 " + Z, 0, 0)
        self.check("many 2 from 0 to 3", 4, 0)
        self.check("maybe many 3 from 0 to 9", 12, 5, 0, 4, 11)
        self.check("many 2 maybe from 0 to 2", 4, 0)

    def test_the_part_with_the_most_and_the_first_of_several(self):
        for parts, told in (
            (["0 to 6", "0 to 9", "0 to 2"], [9, 6, 3, 4, 10]),
            (["0 to 1", "0 to 4", "0 to 12", "0 to 4"], [11, 3, 1, 3, 5]),
            (["0 to 3", "5 to 5", "0 to 2"], [4, 1, 2, 2, 3]),
            (["0 to 2", "0 to 6", "0 to 14"], [9, 1, 0, 2, 3]),
            (["0 to 1", "0 to 3", "5 to 5"], [3, 0]),
        ):
            text = "record R {" + "".join(f" f{n} : from {part} ;" for n, part in enumerate(parts)) + " }"
            self.assertEqual(ask(load(text), niche(0))[1], told, parts)

    def test_what_a_part_has_taken_is_not_counted(self):
        text = "record R { a : maybe maybe from 0 to 12 ; b : from 0 to 13 ; c : from 0 to 14 ; }"
        self.assertEqual(ask(load(text), niche(0))[1], [12, 2, 4, 4, 14])

    def test_one_with_enough_spare_values(self):
        self.check(f"one {{ a : from 0 to 4, b : {Z}, c : {Z}, d : {Z} }}", 3, 0)
        self.check(f"one {{ a : {Z}, b : from 0 to 9 }}", 4, 5, 0, 4, 11)
        self.check(f"one {{ a : {Z}, b : {Z}, c : maybe from 0 to 9, d : {Z} }}", 4, 2, 0, 4, 14)
        self.check(f"maybe one {{ a : {Z}, b : from 0 to 9 }}", 4, 4, 0, 4, 12)

    def test_one_with_too_few_spare_values(self):
        self.check(f"one {{ a : from 0 to 5, b : {Z}, c : {Z}, d : {Z} }}", 5, 0)
        self.check(f"one {{ a : from 0 to 6, b : {Z}, c : {Z} }}", 5, 1, 0, 2, 3)

    def test_one_with_a_tag(self):
        bit = "from 0 to 1"
        self.check(f"one {{ a : {bit}, b : {bit} }}", 2, 0)
        self.check(f"one {{ a : {bit}, b : {bit}, c : from 0 to 9 }}", 6, 1, 0, 2, 3)
        self.check(f"one {{ a : {bit}, b : {bit}, c : {bit}, d : from 0 to 9 }}", 6, 0)
        self.check(f"one {{ a : {Z}, b : {Z}, c : {Z} }}", 2, 1, 0, 2, 3)
        self.check(f"maybe one {{ a : {Z}, b : {Z}, c : {Z} }}", 2, 0)

    def test_named_records(self):
        text = ("record P { x : from 0 to 1 ; y : from 0 to 9 ; } record Q { a : from 0 to 3 ; b : P ; } "
                "record S { a : maybe Q ; } record T { a : one { n : from 5 to 5, p : P } ; }")
        self.assertEqual(ask(load(text), niche(0), niche(1), niche(2), niche(3))[1:],
                         [[5, 6, 1, 4, 10], [7, 6, 3, 4, 10], [7, 5, 3, 4, 11], [5, 5, 1, 4, 11]])

    def test_worked_records(self):
        self.assertEqual(ask(load(WORKED), niche(0), niche(1))[1:], [[7, 6, 0, 4, 10], [14, 5, 0, 4, 11]])


if __name__ == "__main__":
    unittest.main()
