"""The interface: one list of calls in, one list of answers out, nothing changed or kept."""

import unittest

from layouts.packed import answers
from tests.helper import FAILED, WORKED, ask, dec, enc, field, load, niche, pack, rank, sizes, unpack


def joined(*calls):
    return [number for call in calls for number in call]


class Worked(unittest.TestCase):
    CALLS = joined(
        load(WORKED), sizes(1), niche(1), enc(1, 1, 4, -3, 1, 2, 0, 5), enc(1, 0, 0, 1, 5), dec(1, 10, 1),
        dec(1, 11, 1), pack(1, 1, 4, -3, 1, 2, 0, 5), unpack(1, 27, 3), unpack(1, 255, 7), rank())

    def test_number_by_number(self):
        self.assertEqual(answers(self.CALLS), [
            4, 1, 2, 2, 8,
            5, 1, 17, 16, 14, 11,
            5, 14, 5, 0, 4, 11,
            3, 2, 132, 2,
            3, 2, 10, 1,
            5, 4, 0, 0, 1, 5,
            1, -4,
            3, 2, 27, 3,
            8, 7, 1, 4, -3, 1, 2, 0, 5,
            1, -4,
            9, 2, 7, 7, 7, 7, 17, 16, 14, 11,
        ])

    def test_sizes_of_both_records(self):
        self.assertEqual(answers(joined(load(WORKED), sizes(0))), [4, 1, 2, 2, 8, 5, 1, 7, 7, 7, 7])


class Calls(unittest.TestCase):
    def test_each_answer_has_its_length_ahead(self):
        calls = joined(sizes(0), load(FAILED), load(field("from 5 to 5")), niche(0), enc(0, 5), enc(0), sizes(1))
        self.assertEqual(answers(calls), [1, -1, 3, 0, 2, 0, 3, 1, 1, 1, 2, 0, 0, 1, 0, 1, -4, 1, -2])

    def test_one_call_and_a_hundred(self):
        self.assertEqual(answers(joined(load(""))), [3, 0, 3, 0])
        self.assertEqual(answers(joined(load(WORKED), *[sizes(1)] * 99)), [4, 1, 2, 2, 8] + [5, 1, 17, 16, 14, 11] * 99)

    def test_a_hundred_of_all_kinds(self):
        line = [load(WORKED), sizes(1), niche(1), enc(1, 0, 0, 1, 5), dec(1, 10, 1), dec(1, 11, 1), dec(1, 256, 1),
                pack(1, 1, 4, -3, 1, 2, 0, 5), unpack(1, 27, 3), rank()]
        told = [[1, 2, 2, 8], [1, 17, 16, 14, 11], [14, 5, 0, 4, 11], [2, 10, 1], [4, 0, 0, 1, 5], [-4], [-5],
                [2, 27, 3], [7, 1, 4, -3, 1, 2, 0, 5], [2, 7, 7, 7, 7, 17, 16, 14, 11]]
        self.assertEqual(ask(*line * 10), told * 10)

    def test_a_hundred_over_24_leaves(self):
        least = [-1000000] * 24
        line = [enc(0, *least), dec(0, *[0] * 63), pack(0, *least), unpack(0, *[0] * 63)]
        told = ask(load(field("many 3 many 8 from -1000000 to 1000000")), *line * 24)
        self.assertEqual(told[1:], [[63] + [0] * 63, [24] + least] * 48)

    def test_thirty_six_deep(self):
        text = "record R0 { f : maybe maybe maybe many 3 maybe from 0 to 8 ; } "
        for n in range(1, 6):
            text += f"record R{n} {{ f : maybe maybe maybe many 1 many 1 R{n - 1} ; }} "
        for value in ([1] * 18 + [0, 1, 8, 0], [1] * 17 + [0], [0], [1] * 18 + [1, 8] * 3):
            in_form, packed = ask(load(text), enc(5, *value), pack(5, *value))[1:]
            told = ask(load(text), dec(5, *in_form[1:]), unpack(5, *packed[1:]))
            self.assertEqual(told, [[1, 6, 9, 12, 15, 18, 21, 24], [len(value)] + value, [len(value)] + value])

    def test_every_call_but_load_is_refused_while_there_are_no_records(self):
        calls = [sizes(0), niche(0), enc(0, 1, 2), dec(0, 3, 0), pack(0), unpack(-1, 7, 7, 7), rank()]
        self.assertEqual(ask(*calls, load(FAILED), *calls), [[-1]] * 7 + [[0, 2, 0]] + [[-1]] * 7)

    def test_rows_that_look_like_calls_are_not_read_as_such(self):
        told = ask(load([0, 1, 2]), enc(3, 0, 0, 1), load(WORKED), enc(1, 7, 7), dec(9, 3, 0, 0), pack(-1, 1, 1),
                   unpack(2, 0), enc(1, 0, 0, 1, 5))
        self.assertEqual(told, [[0, 2, 0], [-1], [1, 2, 2, 8], [-4], [-2], [-2], [-2], [2, 10, 1]])

    def test_long_rows(self):
        told = ask(load(WORKED), dec(1, *[0] * 2000), pack(1, *[1] * 2000), unpack(1, *[0] * 2000), niche(0))
        self.assertEqual(told[1:], [[-5], [-4], [-5], [7, 6, 0, 4, 10]])
        told = ask(load(WORKED), enc(1, *[1] * 2000), load([35] * 8192), load([35] * 4096), load([10] * 4096), niche(0))
        self.assertEqual(told, [[1, 2, 2, 8], [-4], [0, 1, 4096], [0, 3, 4096], [0, 3, 4096], [7, 6, 0, 4, 10]])

    def test_whole_numbers_alone(self):
        told = answers(Worked.CALLS + joined(niche(9), dec(1, 256, 1), load("?")))
        self.assertIs(type(told), list)
        self.assertEqual({type(number) for number in told}, {int})


class NothingKept(unittest.TestCase):
    CALLS = Worked.CALLS + joined(load("?"), enc(1), sizes(5), dec(1, 256, -1), pack(1), unpack(1), rank())

    def test_what_is_handed_in_stays(self):
        calls = list(self.CALLS)
        answers(calls)
        self.assertEqual(calls, self.CALLS)

    def test_twice_alike(self):
        calls = list(self.CALLS)
        first = answers(calls)
        kept = list(first)
        second = answers(calls)
        self.assertEqual(first, second)
        first.append(0)
        self.assertEqual(answers(calls), kept)

    def test_each_time_as_if_for_the_first_time(self):
        answers(joined(load(WORKED)))
        self.assertEqual(answers(joined(sizes(0), dec(0, 105), pack(0, 9, 3), unpack(0, 69), rank())), [1, -1] * 5)


if __name__ == "__main__":
    unittest.main()
