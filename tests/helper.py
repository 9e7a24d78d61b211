"""What the tests share: calls by name, and the answers one by one."""

from layouts.packed import answers

WORKED = (
    "record P { x : from 0 to 9 ; y : from -3 to 3 at 8 ; } "
    "record R { a : maybe P ; b : one { k : from 0 to 1, m : many 2 from 0 to 4 } hot 3 ; c : from 5 to 5 ; }"
)
FAILED = "?"  # a text that tells no records
UNDER = -(10 ** 18)
OVER = 10 ** 18


def load(text):
    told = list(text) if isinstance(text, (list, bytes)) else [ord(sign) for sign in text]
    return [0, len(told)] + told


def sizes(r):
    return [1, r]


def niche(r):
    return [2, r]


def enc(r, *value):
    return [3, r, len(value), *value]


def dec(r, *row):
    return [4, r, len(row), *row]


def pack(r, *value):
    return [5, r, len(value), *value]


def unpack(r, *row):
    return [6, r, len(row), *row]


def rank():
    return [7]


def parted(told):
    """What is given back, as one list for each call."""
    found = []
    place = 0
    while place < len(told):
        found.append(told[place + 1:place + 1 + told[place]])
        place += 1 + told[place]
    return found


def ask(*calls):
    return parted(answers([number for call in calls for number in call]))


def field(kind):
    """A text of one record with one field of this kind."""
    return "record R { f : " + kind + " ; }"


def loaded(text):
    return ask(load(text))[0]


def sizes_of(kind):
    return ask(load(field(kind)), sizes(0))[1]


def niche_of(kind):
    return ask(load(field(kind)), niche(0))[1]


def enc_of(kind, *value):
    return ask(load(field(kind)), enc(0, *value))[1]
