"""The promises, over many small kinds and all values of each."""

import unittest

from tests.helper import ask, enc, load, niche, sizes


def number(first, last):
    return ("number", first, last)


NUMBERS = [number(5, 5), number(0, 1), number(-1, 1), number(0, 4), number(-3, 3), number(0, 9)]


def small_kinds():
    """Kinds of up to three levels: each as a tuple, named by its first part."""
    first = list(NUMBERS)
    first += [("maybe", kind) for kind in NUMBERS]
    first += [("many", times, kind) for times in (1, 2, 3) for kind in NUMBERS[:4]]
    first += [("one", [a, b]) for a in NUMBERS[:4] for b in NUMBERS]
    first += [("one", [a, b, c]) for a in NUMBERS[:2] for b in NUMBERS[:4] for c in (NUMBERS[0], NUMBERS[5])]
    first += [("one", [NUMBERS[0], a, NUMBERS[0], NUMBERS[0]]) for a in NUMBERS]
    first += [("record", [a, b]) for a in NUMBERS[1:4] for b in NUMBERS]
    second = [("maybe", kind) for kind in first]
    second += [("many", 2, kind) for kind in first if count(kind) < 12]
    second += [("one", [NUMBERS[0], kind]) for kind in first]
    second += [("one", [kind, NUMBERS[0], NUMBERS[0]]) for kind in first]
    second += [("record", [number(0, 2), kind, kind]) for kind in first if count(kind) < 12]
    third = [("maybe", kind) for kind in second[::3]]
    third += [("one", [NUMBERS[0], kind, NUMBERS[0]]) for kind in second[::3]]
    third += [("one", [kind, NUMBERS[2]]) for kind in second[::5]]
    return first + second + third


def count(kind):
    return len(values(kind))


def values(kind):
    """All values, in the document's order."""
    if kind[0] == "number":
        return [[value] for value in range(kind[1], kind[2] + 1)]
    if kind[0] == "maybe":
        return [[0]] + [[1] + value for value in values(kind[1])]
    if kind[0] == "one":
        return [[n] + value for n, inner in enumerate(kind[1]) for value in values(inner)]
    found = [[]]
    for part in [kind[2]] * kind[1] if kind[0] == "many" else kind[1]:
        found = [head + tail for head in found for tail in values(part)]
    return found


def written(kind, records):
    """The kind's text; a record's own text is put behind those told before."""
    if kind[0] == "number":
        return f"from {kind[1]} to {kind[2]}"
    if kind[0] == "maybe":
        return "maybe " + written(kind[1], records)
    if kind[0] == "many":
        return f"many {kind[1]} " + written(kind[2], records)
    parts = [(f"x{n} : ", written(part, records)) for n, part in enumerate(kind[1])]
    if kind[0] == "one":
        return "one { " + " , ".join(name + part for name, part in parts) + " }"
    name = f"R{len(records)}"
    records.append("record " + name + " { " + " ".join(name + part + " ;" for name, part in parts) + " } ")
    return name


def shared(kind):
    """Told here anew from the document's words, as flat below."""
    if kind[0] == "number":
        return max(1, (kind[2] - kind[1]).bit_length())
    if kind[0] == "maybe":
        return 1 + shared(kind[1])
    if kind[0] == "many":
        return kind[1] * shared(kind[2])
    if kind[0] == "one":
        return (len(kind[1]) - 1).bit_length() + max(shared(part) for part in kind[1])
    return sum(shared(part) for part in kind[1])


def flat(kind):
    if kind[0] == "one":
        return (len(kind[1]) - 1).bit_length() + sum(flat(part) for part in kind[1])
    if kind[0] == "maybe":
        return 1 + flat(kind[1])
    if kind[0] == "many":
        return kind[1] * flat(kind[2])
    if kind[0] == "record":
        return sum(flat(part) for part in kind[1])
    return shared(kind)


def measured(kind):
    """Sizes, niche, and the bits of all values as numbers."""
    records = []
    text = written(kind, records)
    told = "".join(records) + "record Last { f : " + text + " ; }"
    r = len(records)
    calls = [enc(r, *value) for value in values(kind)]
    head = ask(load(told), sizes(r), niche(r))
    assert head[0][0] == 1, told
    bits = []
    for place in range(0, len(calls), 90):
        bits.extend(ask(load(told), *calls[place:place + 90])[1:])
    return told, head[1], head[2], bits


class Promises(unittest.TestCase):
    def test_small_kinds(self):
        kinds = small_kinds()
        self.assertGreater(len(kinds), 300)
        for kind in kinds:
            text, four, spare, told = measured(kind)
            with self.subTest(text=text):
                self.check_sizes(kind, four)
                self.check_bits(four[3], told)
                self.check_spare(four[3], spare, told)

    def check_sizes(self, kind, four):
        self.assertEqual(four[0:3], [1, flat(kind), shared(kind)])
        self.assertGreaterEqual(four[1], four[2])
        self.assertGreaterEqual(four[2], four[3])
        self.assertGreaterEqual(four[3], four[4])
        many = count(kind)
        self.assertGreaterEqual(2 ** four[4], many)
        self.assertTrue(four[4] == 0 or 2 ** (four[4] - 1) < many)

    def check_bits(self, bits, told):
        self.assertEqual(len({tuple(row) for row in told}), len(told))
        for row in told:
            self.assertEqual(row[0], (bits + 7) // 8)
            self.assertEqual(len(row), row[0] + 1)
            self.assertLess(int.from_bytes(bytes(row[1:]), "little"), 2 ** bits)

    def check_spare(self, bits, spare, told):
        self.assertEqual(spare[0], bits)
        if spare[1] == 0:
            self.assertEqual(len(spare), 2)
            return
        many, at, width, first = spare[1:]
        self.assertGreater(many, 0)
        self.assertLessEqual(at + width, bits)
        self.assertLessEqual(first + many, 2 ** width)
        for row in told:
            there = int.from_bytes(bytes(row[1:]), "little") >> at & (2 ** width - 1)
            self.assertFalse(first <= there < first + many)


if __name__ == "__main__":
    unittest.main()
