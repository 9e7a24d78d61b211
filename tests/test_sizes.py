"""sizes: flat, shared, the form's bits, packed."""

import unittest

from tests.helper import OVER, UNDER, WORKED, ask, field, load, niche, sizes, sizes_of

Z = "from 5 to 5"  # one value alone


class Sizes(unittest.TestCase):
    def check(self, kind, *told):
        self.assertEqual(sizes_of(kind), [1, *told], kind)

    def test_numbers(self):
        self.check(Z, 1, 1, 0, 0)
        self.check("from 0 to 1", 1, 1, 1, 1)
        self.check("from -3 to -1", 2, 2, 2, 2)
        self.check("from 0 to 7", 3, 3, 3, 3)
        self.check("from 0 to 8", 4, 4, 4, 4)
        self.check("from 1000000 to 1000000", 1, 1, 0, 0)
        self.check("from -1000000 to 1000000", 21, 21, 21, 21)
        self.check("from 0 to 1000000", 20, 20, 20, 20)

    def test_alignment_and_hotness_take_no_bits(self):
        for more in ("at 2", "at 32", "hot 1000", "at 8 hot 3"):
            self.check("from 0 to 9 " + more, 4, 4, 4, 4)

    def test_maybe(self):
        self.check("maybe from 0 to 9", 5, 5, 4, 4)
        self.check("maybe from 0 to 6", 4, 4, 3, 3)
        self.check("maybe from 0 to 7", 4, 4, 4, 4)
        self.check("maybe " + Z, 2, 2, 1, 1)
        self.check("maybe maybe from 0 to 9", 6, 6, 4, 4)
        self.check("maybe maybe from 0 to 6", 5, 5, 4, 4)
        self.check("maybe maybe " + Z, 3, 3, 2, 2)
        self.check("maybe maybe maybe from 0 to 0", 4, 4, 3, 2)

    def test_many(self):
        self.check("many 1 from 0 to 9", 4, 4, 4, 4)
        self.check("many 3 from 0 to 9", 12, 12, 12, 10)
        self.check("many 8 " + Z, 8, 8, 0, 0)
        self.check("many 2 many 2 from 0 to 2", 8, 8, 8, 7)
        self.check("many 3 maybe from 0 to 1", 6, 6, 6, 5)
        self.check("maybe many 2 from 0 to 4", 7, 7, 6, 5)

    def test_one_with_enough_spare_values(self):
        self.check(f"one {{ a : from 0 to 4, b : {Z}, c : {Z}, d : {Z} }}", 8, 5, 3, 3)
        self.check(f"one {{ a : {Z}, b : from 0 to 9 }}", 6, 5, 4, 4)

    def test_one_with_too_few_spare_values(self):
        self.check(f"one {{ a : from 0 to 5, b : {Z}, c : {Z}, d : {Z} }}", 8, 5, 5, 4)
        self.check(f"one {{ a : from 0 to 7, b : {Z} }}", 5, 4, 4, 4)

    def test_one_with_several_or_no_alternatives_with_bits(self):
        self.check("one { a : from 0 to 4, b : from 0 to 1 }", 5, 4, 4, 3)
        self.check(f"one {{ a : {Z}, b : {Z} }}", 3, 2, 1, 1)
        self.check(f"one {{ a : {Z}, b : many 2 {Z}, c : {Z} }}", 6, 4, 2, 2)
        self.check(f"one {{ a : from 0 to 4, b : maybe {Z}, c : {Z} }}", 8, 5, 5, 3)

    def test_tags_of_two_three_and_four(self):
        bit = "from 0 to 1"
        self.check(f"one {{ a : {bit}, b : {bit} }}", 3, 2, 2, 2)
        self.check(f"one {{ a : {bit}, b : {bit}, c : {bit} }}", 5, 3, 3, 3)
        self.check(f"one {{ a : {bit}, b : {bit}, c : {bit}, d : {bit} }}", 6, 3, 3, 3)

    def test_named_records(self):
        text = "record P { x : from 0 to 9 ; y : from 0 to 2 ; } record Q { p : P ; m : maybe P ; } record S { q : many 2 Q ; }"
        told = ask(load(text), sizes(0), sizes(1), sizes(2))[1:]
        self.assertEqual(told, [[1, 6, 6, 6, 5], [1, 13, 13, 12, 10], [1, 26, 26, 24, 20]])

    def test_the_greatest_packed(self):
        self.check("many 3 many 8 from -1000000 to 1000000", 504, 504, 504, 503)

    def test_fields_together(self):
        told = ask(load("record R { a : from 0 to 2 ; b : from 0 to 2 ; c : from 0 to 2 ; }"), sizes(0))[1]
        self.assertEqual(told, [1, 6, 6, 6, 5])


class Refusals(unittest.TestCase):
    def test_no_such_record(self):
        for call in (sizes, niche):
            for r in (2, 3, -1, -2, OVER, UNDER):
                self.assertEqual(ask(load(WORKED), call(r), call(1)), ask(load(WORKED)) + [[-2]] + ask(load(WORKED), call(1))[1:])

    def test_no_records(self):
        for call in (sizes, niche):
            for r in (0, 1, -1, OVER, UNDER):
                self.assertEqual(ask(call(r)), [[-1]])

    def test_the_last_record(self):
        text = "".join(f"record R{n} {{ f : from 0 to {2 ** n} ; }}" for n in range(6))
        self.assertEqual(ask(load(text), sizes(5), sizes(6), sizes(0))[1:], [[1, 6, 6, 6, 6], [-2], [1, 1, 1, 1, 1]])


if __name__ == "__main__":
    unittest.main()
