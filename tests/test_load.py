"""Records: what load answers of texts that tell some, and every fault with its place."""

import unittest

from tests.helper import FAILED, WORKED, ask, enc, field, load, loaded, niche, sizes

NUMBER = "from 0 to 1"


def marked(text):
    """A text without its one mark ^, and the mark's place: where the fault is to be."""
    place = text.index("^")
    return text[:place] + text[place + 1:], place


class Faults(unittest.TestCase):
    def check(self, code, *texts):
        for text in texts:
            plain, place = marked(text)
            self.assertEqual(loaded(plain), [0, code, place], text)


class Fine(unittest.TestCase):
    def test_worked_text(self):
        self.assertEqual(loaded(WORKED), [1, 2, 2, 8])

    def test_leaves_of_each_kind(self):
        for kind, leaves in (
            ("from 0 to 1", 1),
            ("from 7 to 7", 1),
            ("maybe from 0 to 1", 2),
            ("maybe maybe from 0 to 1", 3),
            ("many 1 from 0 to 1", 1),
            ("many 8 maybe from 0 to 1", 16),
            ("one { a : from 0 to 1 , b : maybe from 0 to 1 }", 4),
            ("one { a : many 5 from 0 to 1 , b : from 0 to 0 , c : from 0 to 0 , d : from 0 to 0 }", 9),
        ):
            self.assertEqual(loaded(field(kind)), [1, 1, leaves], kind)

    def test_one_to_six_records(self):
        for many in range(1, 7):
            text = "".join(f"record R{n} {{ f : many {n + 1} {NUMBER} ; }}" for n in range(many))
            self.assertEqual(loaded(text), [1, many] + list(range(1, many + 1)))

    def test_named_records_bring_their_leaves(self):
        text = "record A { f : many 3 from 0 to 1 ; g : from 0 to 0 ; } record B { a : A ; b : maybe many 4 A ; }"
        self.assertEqual(loaded(text), [1, 2, 4, 21])

    def test_names_are_told_apart_in_their_own_place_alone(self):
        text = "record A { A : one { A : from 0 to 1 , f : from 0 to 1 } ; f : from 0 to 1 ; } record f { A : A ; }"
        self.assertEqual(loaded(text), [1, 2, 4, 4])
        both = "one { a : one { a : from 0 to 1 , b : from 0 to 1 } , b : from 0 to 1 }"
        self.assertEqual(loaded(field(both)), [1, 1, 5])
        self.assertEqual(loaded("record A { Name : from 0 to 1 ; name : from 0 to 1 ; }"), [1, 1, 2])

    def test_every_alignment_and_both_bounds_of_hot(self):
        for align in (1, 2, 4, 8, 16, 32):
            self.assertEqual(loaded(field(f"from 0 to 1 at {align}")), [1, 1, 1])
        for hot in (1, 2, 1000):
            self.assertEqual(loaded(field(f"from 0 to 1 hot {hot}")), [1, 1, 1])
        self.assertEqual(loaded(field("from 0 to 1 at 32 hot 1000")), [1, 1, 1])

    def test_bounds_of_numbers(self):
        for bounds in ("- 1000000 to 1000000", "-1000000 to -1000000", "1000000 to 1000000", "- 0 to - 0",
                       "0 to - 0", "- 0 to 0", "-\n1 to -#\n1", "-2 to -1"):
            self.assertEqual(loaded(field("from " + bounds)), [1, 1, 1], bounds)


class Length(unittest.TestCase):
    def test_4096_bytes_and_4097(self):
        text = field(NUMBER)
        self.assertEqual(loaded(text.ljust(4096)), [1, 1, 1])
        self.assertEqual(loaded(text.ljust(4097)), [0, 1, 4096])
        self.assertEqual(loaded(text.ljust(8192)), [0, 1, 4096])
        self.assertEqual(loaded(text + "#" * (4096 - len(text))), [1, 1, 1])

    def test_it_stands_ahead_of_all_others(self):
        self.assertEqual(loaded("?" * 4096), [0, 2, 0])
        self.assertEqual(loaded("?" * 4097), [0, 1, 4096])
        self.assertEqual(loaded("} ".ljust(4097)), [0, 1, 4096])


class NotAllowed(Faults):
    def test_texts_without_records(self):
        self.check(3, "^", "   ^", "# none\n^", "\n# none^")

    def test_a_text_that_ends_where_a_token_has_to_stand(self):
        tokens = "record R { f : many 2 one { a : from - 3 to - 1 at 8 , b : maybe from 0 to 1 } hot 3 ; }".split()
        for many in range(len(tokens)):
            self.check(3, " ".join(tokens[:many]) + "^", " ".join(tokens[:many]) + "  # more \n^")

    def test_what_stands_where_a_record_has_to(self):
        self.check(3, "^R { f : from 0 to 1 ; }", "^{", "^}", "^;", "^1", field(NUMBER) + " ^}",
                   field(NUMBER) + "^;", field(NUMBER) + " ^R", field(NUMBER) + "^layout", field(NUMBER) + "^-")

    def test_where_the_records_parts_have_to(self):
        self.check(3, "record ^{ f : from 0 to 1 ; }", "record ^1 { }", "record ^record { }", "record ^size { }",
                   "record R ^f : from 0 to 1 ; }", "record R ^: ", "record R ^; ", "record R {^{ ")

    def test_a_record_without_fields(self):
        self.check(3, "record R { ^}", "record R{^}", field(NUMBER) + "record Q { # none\n ^}")

    def test_where_a_fields_parts_have_to(self):
        self.check(3, "record R { ^1 : from 0 to 1 ; }", "record R { ^: from 0 to 1 ; }",
                   "record R { f ^from 0 to 1 ; }", "record R { f ^; }", "record R { f : ^; }",
                   "record R { f : ^: from 0 to 1 ; }", "record R { f : from 0 to 1 ^}",
                   "record R { f : from 0 to 1 ^, g : from 0 to 1 ; }", "record R { f : from 0 to 1 ; ^; }",
                   "record R { f : from 0 to 1 ; ^record", "record R { f : from 0 to 1 ; ^hot : from 0 to 1 ; }")

    def test_what_is_no_kind(self):
        self.check(3, *[field("^" + sign) for sign in "{ } , ; : - . 1 record to at hot layout size of".split()])

    def test_a_numbers_parts(self):
        self.check(3, *[field("from " + kind) for kind in (
            "^to 1", "^a to 1", "0 ^1", "0 ^at 1", "0 ^- 1", "0 ^;", "0 to ^;", "0 to ^to", "0 to 1 ^to 2", "0 to 1 ^2",
            "- ^- 1 to 1", "- ^to 1", "-1 to - ^- 1", "-1 to - ^;", "^, 0", "0 ^. 1 to 2", "^maybe")])

    def test_at_and_hot(self):
        self.check(3, *[field("from 0 to 1 " + more) for more in (
            "at ^;", "at ^- 1", "at ^hot 1", "at 1 ^at 1", "at 1 ^2", "hot ^;", "hot ^- 1", "hot ^at 1", "hot 1 ^at 1",
            "hot 1 ^hot 1", "hot 1 ^1", "hot ^a")])
        self.check(3, field("maybe from 0 to 1 hot 2 ^hot 2"), field("many 2 ^hot 2"),
                   "record P { f : from 0 to 1 ; } record R { f : P ^at 8 ; }")

    def test_many(self):
        self.check(3, field("many ^from 0 to 1"), field("many ^- 1 from 0 to 1"), field("many ^;"),
                   field("many ^a from 0 to 1"), field("many 2 ^;"), field("many 2 ^2 from 0 to 1"),
                   field("many 2 ^, from 0 to 1"))

    def test_one(self):
        self.check(3, *[field("one " + kind) for kind in (
            "^a : from 0 to 1", "^;", "{ ^}", "{ ^, ", "{ ^1", "{ ^from", "{ a ^from 0 to 1", "{ a ^, b", "{ a : ^, b",
            "{ a : ^}", "{ a : from 0 to 1 ^b : from 0 to 1 }", "{ a : from 0 to 1 ^;", "{ a : from 0 to 1 , ^}",
            "{ a : from 0 to 1 , ^, b : from 0 to 1 }", "{ a : from 0 to 1 , b : from 0 to 1 ^;",
            "{ a : from 0 to 1 , b : from 0 to 1 , ^}", "{ a : from 0 to 1 , b : from 0 to 1 } ^}",
            "{ a : from 0 to 1 ^hot 2 , b : from 0 to 1 }", "{ a : from 0 to 1 , b : from 0 to 1 ^hot 2 }",
            "{ a : from 0 to 1 , b : from 0 to 1 , c : from 0 to 1 , d : from 0 to 1 ^;")])

    def test_a_single_alternative(self):
        self.check(3, field("one { a : from 0 to 1 ^}"), field("one{a:maybe one{a:from 0 to 1^}}"))


class TooMuch(Faults):
    SIX = "".join(f"record R{n} {{ f : {NUMBER} ; }} " for n in range(6))
    FOUR = ", ".join(f"a{n} : {NUMBER}" for n in range(4))

    def test_a_sixth_and_a_seventh_record(self):
        self.assertEqual(loaded(self.SIX), [1, 6] + [1] * 6)
        self.check(4, self.SIX + "^record Q { f : from 0 to 1 ; }", self.SIX + "^record", self.SIX + "^record R0 { }")
        self.check(3, self.SIX + "^Q", self.SIX + "^}")

    def test_a_fourth_and_a_fifth_alternative(self):
        self.assertEqual(loaded(field("one { " + self.FOUR + " }")), [1, 1, 5])
        for token in ("b : from 0 to 1 }", "a0 : from 0 to 1 }", "}", ",", "1", "record", "- 1", "."):
            self.check(4, field("one { " + self.FOUR + " , ^" + token))
        self.check(4, "record R { f : one { " + self.FOUR + ",^", "record R { f : one { " + self.FOUR + ", # \n ^")

    def test_six_and_seven_levels(self):
        for outer in (["maybe "] * 6, ["many 1 "] * 6, ["maybe ", "many 1 "] * 3, ["many 2 ", "maybe "] * 3):
            six = "".join(outer[:5])
            seven = "".join(outer)
            self.assertEqual(loaded(field(six + NUMBER))[0:2], [1, 1], six)
            for token in ("from 0 to 1", "maybe", "many 9", "one", "R", ";", "}", "9", "-", "."):
                self.check(4, field(seven + "^" + token))
            self.check(4, "record R { f : " + seven + "^", "record R { f : " + seven + " # \n ^")

    def test_levels_within_alternatives(self):
        def inner(levels, last):
            return "one { a : " * levels + last + " , b : from 0 to 1 }" * levels
        self.assertEqual(loaded(field(inner(5, NUMBER))), [1, 1, 11])
        self.check(4, field(inner(6, "^" + NUMBER)), field(inner(6, "^}")))
        self.assertEqual(loaded(field("maybe " * 4 + "one { a : from 0 to 1 , b : from 0 to 1 }")), [1, 1, 7])
        self.check(4, field("maybe " * 5 + "one { a : ^from 0 to 1 , b : from 0 to 1 }"))
        self.check(3, field("maybe " * 5 + "one { a ^, "))
        self.check(7, field("maybe " * 5 + "many ^9 from 0 to 1"))

    def test_a_named_record_is_one_level_whatever_stands_in_it(self):
        first = "record A { f : maybe maybe maybe maybe maybe from 0 to 1 ; } "
        self.assertEqual(loaded(first + "record B { f : maybe maybe maybe maybe maybe A ; }"), [1, 2, 6, 11])
        self.check(4, first + "record B { f : maybe maybe maybe maybe maybe maybe ^A ; }")

    def test_thirty_six_levels(self):
        text = "record R0 { f : many 1 many 1 many 1 many 1 maybe from 0 to 1 ; } "
        for n in range(1, 6):
            text += f"record R{n} {{ f : many 1 many 1 many 1 many 1 maybe R{n - 1} ; }} "
        told = ask(load(text), sizes(5), enc(5, 1, 1, 1, 1, 1, 1, 1), enc(5, 1, 1, 1, 0))
        self.assertEqual(told, [[1, 6, 2, 3, 4, 5, 6, 7], [1, 7, 7, 7, 3], [1, 127], [1, 7]])


class Twice(Faults):
    def test_records_fields_and_alternatives(self):
        self.check(5, field(NUMBER) + "record ^R", field(NUMBER) + "record ^R { f : from 0 to 1 ; }",
                   "record A { f : from 0 to 1 ; }" + field(NUMBER) + "record ^A { }",
                   "record R { f : from 0 to 1 ; ^f : from 0 to 1 ; }",
                   "record R { f : from 0 to 1 ; g : from 0 to 1 ; ^f",
                   field("one { a : from 0 to 1 , ^a : from 0 to 1 }"),
                   field("one { a : from 0 to 1 , b : from 0 to 1 , c : from 0 to 1 , ^b"))


class Unknown(Faults):
    def test_no_record_told_before(self):
        self.check(6, field("^Q"), field("maybe ^Q"), field("many 2 ^Q"), field("one { a : ^Q , b : from 0 to 1 }"),
                   field("one { a : from 0 to 1 , b : ^a }"), field("^f"))

    def test_itself_and_a_later_one(self):
        self.check(6, field("^R"), field("maybe ^R"), field("^Q") + "record Q { f : from 0 to 1 ; }",
                   "record A { f : from 0 to 1 ; g : ^A ; }", "record A { f : from 0 to 1 ; } record B { f : ^a ; }")


class Bounds(Faults):
    def test_values(self):
        self.check(7, *[field("from " + kind) for kind in (
            "^1000001 to 1000002", "0 to ^1000001", "- ^1000001 to 0", "-^1000001 to 0", "- 1 to -  ^1000001",
            "0 to ^1000000000", "-#\n^1000001 to 0")])

    def test_a_last_value_below_the_first(self):
        self.check(7, *[field("from " + kind) for kind in (
            "1 to ^0", "1000000 to ^999999", "0 to - ^1", "0 to -^1", "-1 to - ^2", "-1 to -\n^1000000")])

    def test_at(self):
        for align in (0, 3, 5, 6, 7, 9, 12, 15, 24, 31, 33, 64, 128, 1000000000):
            self.check(7, field(f"from 0 to 1 at ^{align}"))

    def test_hot(self):
        self.check(7, field("from 0 to 1 hot ^0"), field("from 0 to 1 hot ^1001"), field("from 0 to 1 at 2 hot ^0"),
                   field("maybe from 0 to 1 hot ^1000000000"))

    def test_many(self):
        for times in range(1, 9):
            self.assertEqual(loaded(field(f"many {times} {NUMBER}")), [1, 1, times])
        self.check(7, field("many ^0 from 0 to 1"), field("many ^9 from 0 to 1"), field("many ^1000000000 from 0 to 1"),
                   field("many ^9 ;"))


class Leaves(Faults):
    def test_24_and_25(self):
        self.assertEqual(loaded(field("many 3 many 8 " + NUMBER)), [1, 1, 24])
        for text in (
            "^record R { f : many 3 many 8 from 0 to 1 ; g : from 0 to 1 ; }",
            "^record R { f : many 5 many 5 from 0 to 1 ; }",
            "^record R { f : maybe many 3 many 8 from 0 to 1 ; }",
            "^record R { f : one { a : many 8 from 0 to 1 , b : many 8 from 0 to 1 , c : many 8 from 0 to 1 } ; }",
            "# far in\n ^record R { f : many 4 many 8 from 0 to 1 ; } # and more",
            "record A { f : many 5 from 0 to 1 ; } ^record B { f : many 5 A ; } record C { f : from 0 to 1 ; }",
        ):
            self.check(15, text)
        self.assertEqual(loaded("record A { f : many 6 from 0 to 1 ; } record B { f : many 4 A ; }"), [1, 2, 6, 24])

    def test_many_more(self):
        self.check(15, field("many 8 many 8 many 8 many 8 many 8 from -1000000 to 1000000").replace("rec", "^rec"))
        fields = "".join(f"f{n}:many 8many 8many 8many 8many 8from 0to 999999;" for n in range(60))
        self.check(15, "^record R{" + fields + "}")

    def test_when_its_closing_brace_has_been_read(self):
        much = "record R { f : many 5 many 5 from 0 to 1 ; "
        self.check(3, much + "^", much + "^;", much + "g ^}")
        self.check(5, much + "^f")
        self.check(6, much + "g : ^R ; }")
        self.check(7, much + "g : from 0 to 1 hot ^0 ; }")
        self.check(15, "^" + much + "} }", "^" + much + "} record R { }")
        self.check(2, much + "} ^?")


def long_text(size, kind=NUMBER):
    """Six records whose one form has this many bytes, written so; the last one has a field of this kind."""
    lines = ["record A {", "a : from 0 to 1 ;", "}"]
    for n in range(4):
        lines.append(f"record R{n} {{")
        lines.extend(f"f{m:02} : from 0 to 1 at 8 hot 1000 ;" for m in range(24))
        lines.append("}")
    lines.extend(["record Last {", f"last : {kind} hot 77 ;", "}", ""])
    missing = size - len("\n".join(lines))
    for place, line in enumerate(lines):
        if line.startswith("f") and missing > 0:
            more = min(missing, 13)
            lines[place] = line.replace(" :", "q" * more + " :")
            missing -= more
    text = "\n".join(lines)
    assert len(text) == size, len(text)
    return text


def narrow(one_form):
    """The same tokens with few blanks between."""
    for sign in ":;{},":
        one_form = one_form.replace(" " + sign, sign).replace(sign + " ", sign)
    return one_form.replace("\n", "")


class OneForm(Faults):
    FINE = [1, 6, 1, 24, 24, 24, 24, 1]

    def test_4096_bytes_and_more(self):
        for size in (4090, 4095, 4096, 4097, 4098, 4400):
            text = narrow(long_text(size))
            self.assertLessEqual(len(text), 4096)
            self.assertEqual(loaded(text), self.FINE if size <= 4096 else [0, 16, 0], size)
        self.assertEqual(loaded(long_text(4096)), self.FINE)

    def test_what_the_one_form_does_not_tell(self):
        text = narrow(long_text(4096))
        for old, new in (("1 hot 77", "1 at 1 hot 77"), ("1;}", "1 hot 1;}"), ("from 0", "from - 0"), ("0 to", "0   to"),
                         ("{", "{ # a remark\n\n"), ("}", "\n\n}")):
            longer = text.replace(old, new, 3)
            self.assertGreater(len(longer), len(text))
            self.assertLessEqual(len(longer), 4096)
            self.assertEqual(loaded(longer), self.FINE, new)

    def test_every_kind_of_token_counts(self):
        for kind in (
            "from -3 to -1 at 8", "from 0 to 1000000 at 32", "maybe from 0 to 10", "many 8 from 0 to 1", "maybe maybe A",
            "one { a : from 0 to 1, bc : maybe many 2 from 5 to 1000000 at 16 }", "A",
            "one { a : one { b : from 0 to 0, c : A }, d : from -1 to 0, e : A, f2 : from 0 to 1 }",
        ):
            fine = narrow(long_text(4096, kind))
            self.assertEqual(loaded(fine)[0:2], [1, 6], kind)
            self.assertEqual(loaded(narrow(long_text(4097, kind))), [0, 16, 0], kind)

    def test_it_comes_last(self):
        text = narrow(long_text(4097))
        self.check(3, text + "^}")
        self.check(4, text + "^record")
        self.check(2, text + "^?")
        self.check(5, text.replace("Last", "^R3"))
        self.check(7, text.replace("77", "^0"))


class Order(Faults):
    def test_whichever_comes_first_from_left_to_right(self):
        self.check(7, "record R { f : from 0 to ^1000001 ; f : Q ; }")
        self.check(5, "record R { f : from 0 to 1 ; ^f : from 0 to 1000001 ; }")
        self.check(6, "record R { f : ^Q ; f : from 0 to 1 ; g }")
        self.check(3, "record R { f : from 0 ^; f : Q ; }")
        self.check(7, field("from ^1000001 to 0 at 3 hot 0"), field("from 1 to ^0 at 3 hot 0"),
                   field("from 0 to 1 at ^3 hot 0"), field("many ^0 Q"))
        self.check(6, field("many 8 ^Q hot 0"))
        self.check(15, "^record R { f : many 5 many 5 from 0 to 1 ; } record R { }")
        self.check(2, "} record R { f : ^007")


class Holding(unittest.TestCase):
    def test_a_load_that_fails_leaves_what_was_held(self):
        calls = [sizes(0), niche(1), enc(1, 1, 4, -3, 1, 2, 0, 5), sizes(2)]
        for wrong in (FAILED, "", "record", field("Q"), " " * 4097, field("many 5 many 5 from 0 to 1")):
            told = ask(load(WORKED), *calls, load(wrong), *calls)
            self.assertEqual(told[5][0], 0)
            self.assertEqual(told[1:5], told[6:])

    def test_a_load_that_succeeds_takes_the_place_of_all(self):
        told = ask(load(WORKED), load(field("from 0 to 6")), sizes(0), sizes(1), load(WORKED), sizes(1))
        self.assertEqual(told[1:], [[1, 1, 1], [1, 3, 3, 3, 3], [-2], [1, 2, 2, 8], [1, 17, 16, 14, 11]])

    def test_a_load_that_fails_first_leaves_none(self):
        self.assertEqual(ask(load(FAILED), sizes(0), load(field("from 0 to 1")), sizes(0)),
                         [[0, 2, 0], [-1], [1, 1, 1], [1, 1, 1, 1, 1]])


if __name__ == "__main__":
    unittest.main()
