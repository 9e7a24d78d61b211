"""Kinds as tuples, named by their first part: what the document says of them, told anew for the tests.

A number is ("number", first, last), then ("maybe", kind), ("many", times, kind), ("one", kinds), ("record", kinds).
"""

from tests.helper import ask, load

MOST_CALLS = 100


def number(first, last):
    return ("number", first, last)


NUMBERS = [number(5, 5), number(0, 1), number(-1, 1), number(0, 4), number(-3, 3), number(0, 9)]


def small_kinds():
    """Kinds of up to three levels."""
    first = list(NUMBERS)
    first += [("maybe", kind) for kind in NUMBERS]
    first += [("many", times, kind) for times in (1, 2, 3) for kind in NUMBERS[:4]]
    first += [("one", [a, b]) for a in NUMBERS[:4] for b in NUMBERS]
    first += [("one", [a, b, c]) for a in NUMBERS[:2] for b in NUMBERS[:4] for c in (NUMBERS[0], NUMBERS[5])]
    first += [("one", [NUMBERS[0], a, NUMBERS[0], NUMBERS[0]]) for a in NUMBERS]
    first += [("record", [a, b]) for a in NUMBERS[1:4] for b in NUMBERS]
    second = [("maybe", kind) for kind in first]
    second += [("many", 2, kind) for kind in first if count(kind) < 12]
    second += [("one", [NUMBERS[0], kind]) for kind in first]
    second += [("one", [kind, NUMBERS[0], NUMBERS[0]]) for kind in first]
    second += [("record", [number(0, 2), kind, kind]) for kind in first if count(kind) < 12]
    third = [("maybe", kind) for kind in second[::3]]
    third += [("one", [NUMBERS[0], kind, NUMBERS[0]]) for kind in second[::3]]
    third += [("one", [kind, NUMBERS[2]]) for kind in second[::5]]
    return first + second + third


def count(kind):
    """How many values it has."""
    if kind[0] == "number":
        return kind[2] - kind[1] + 1
    if kind[0] == "maybe":
        return 1 + count(kind[1])
    if kind[0] == "one":
        return sum(count(part) for part in kind[1])
    product = 1
    for part in parts_of(kind):
        product *= count(part)
    return product


def parts_of(kind):
    return [kind[2]] * kind[1] if kind[0] == "many" else kind[1]


def values(kind):
    """All values, in the document's order."""
    if kind[0] == "number":
        return [[value] for value in range(kind[1], kind[2] + 1)]
    if kind[0] == "maybe":
        return [[0]] + [[1] + value for value in values(kind[1])]
    if kind[0] == "one":
        return [[n] + value for n, inner in enumerate(kind[1]) for value in values(inner)]
    found = [[]]
    for part in parts_of(kind):
        found = [head + tail for head in found for tail in values(part)]
    return found


def written(kind, records):
    """The kind's text; a record's own text is put behind those told before."""
    if kind[0] == "number":
        return f"from {kind[1]} to {kind[2]}"
    if kind[0] == "maybe":
        return "maybe " + written(kind[1], records)
    if kind[0] == "many":
        return f"many {kind[1]} " + written(kind[2], records)
    parts = [(f"x{n} : ", written(part, records)) for n, part in enumerate(kind[1])]
    if kind[0] == "one":
        return "one { " + " , ".join(name + part for name, part in parts) + " }"
    name = f"R{len(records)}"
    records.append("record " + name + " { " + " ".join(name + part + " ;" for name, part in parts) + " } ")
    return name


def text_of(kind):
    """A text whose last record has one field of this kind, and this record's number."""
    records = []
    told = written(kind, records)
    return "".join(records) + "record Last { f : " + told + " ; }", len(records)


def shared(kind):
    if kind[0] == "number":
        return max(1, (kind[2] - kind[1]).bit_length())
    if kind[0] == "maybe":
        return 1 + shared(kind[1])
    if kind[0] == "many":
        return kind[1] * shared(kind[2])
    if kind[0] == "one":
        return (len(kind[1]) - 1).bit_length() + max(shared(part) for part in kind[1])
    return sum(shared(part) for part in kind[1])


def flat(kind):
    if kind[0] == "one":
        return (len(kind[1]) - 1).bit_length() + sum(flat(part) for part in kind[1])
    if kind[0] == "maybe":
        return 1 + flat(kind[1])
    if kind[0] == "many":
        return kind[1] * flat(kind[2])
    if kind[0] == "record":
        return sum(flat(part) for part in kind[1])
    return shared(kind)


def leaves(kind):
    if kind[0] == "number":
        return 1
    if kind[0] == "maybe":
        return 1 + leaves(kind[1])
    own = 1 if kind[0] == "one" else 0
    return own + sum(leaves(part) for part in parts_of(kind))


def ask_all(text, calls):
    """The answers to any number of calls behind a load of this text, in lists of a hundred."""
    found = []
    for place in range(0, len(calls), MOST_CALLS - 1):
        told = ask(load(text), *calls[place:place + MOST_CALLS - 1])
        assert told[0][0] == 1, text
        found.extend(told[1:])
    return found


def row_of(number, bits):
    """So many bits as bytes."""
    return list(number.to_bytes((bits + 7) // 8, "little"))
