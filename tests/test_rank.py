"""rank: how many records there are, and the four sizes of each."""

import unittest

from tests.helper import FAILED, WORKED, ask, field, load, rank, sizes


class Rank(unittest.TestCase):
    def test_one_record(self):
        self.assertEqual(ask(load(field("from 0 to 9")), rank())[1], [1, 4, 4, 4, 4])
        self.assertEqual(ask(load(field("maybe from 0 to 9")), rank())[1], [1, 5, 5, 4, 4])
        self.assertEqual(ask(load(field("from 5 to 5")), rank())[1], [1, 1, 1, 0, 0])

    def test_six_records_in_their_order(self):
        text = (
            "record A { f : from 0 to 7 ; } record B { f : many 3 from 0 to 4 ; } record C { f : from 5 to 5 ; } "
            "record D { f : maybe B ; g : A ; } record E { f : one { a : A, b : C } ; } record F { f : from 0 to 1 ; }"
        )
        told = ask(load(text), rank(), *[sizes(r) for r in range(6)])
        self.assertEqual(told[1], [6, 3, 3, 3, 3, 9, 9, 9, 7, 1, 1, 0, 0, 13, 13, 12, 10, 5, 4, 4, 4, 1, 1, 1, 1])
        self.assertEqual(told[1], [6] + [size for four in told[2:] for size in four[1:]])

    def test_worked_records(self):
        self.assertEqual(ask(load(WORKED), rank()), [[1, 2, 2, 8], [2, 7, 7, 7, 7, 17, 16, 14, 11]])

    def test_no_records(self):
        self.assertEqual(ask(rank(), load(FAILED), rank()), [[-1], [0, 2, 0], [-1]])

    def test_behind_a_load_that_failed(self):
        self.assertEqual(ask(load(WORKED), load(FAILED), rank())[2], [2, 7, 7, 7, 7, 17, 16, 14, 11])

    def test_behind_a_second_load(self):
        told = ask(load(WORKED), rank(), load(field("from 0 to 2")), rank(), load(FAILED), rank())
        self.assertEqual(told[3], [1, 2, 2, 2, 2])
        self.assertEqual(told[5], told[3])


if __name__ == "__main__":
    unittest.main()
