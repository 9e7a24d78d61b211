"""From a text to the records that it tells, or to its first fault."""

from layouts.faults import Fault
from layouts.kinds import Field, Many, Maybe, Number, One, Record
from layouts.scan import tokens_of

LONGEST_TEXT = 4096
LONGEST_ONE_FORM = 4096
MOST_RECORDS = 6
MOST_LEAVES = 24
MOST_DEEP = 6
FEWEST_ALTERNATIVES = 2
MOST_ALTERNATIVES = 4
MOST_TIMES = 8
HOTTEST = 1000
GREATEST_VALUE = 1000000
ALIGNS = (1, 2, 4, 8, 16, 32)


class Reader:
    def __init__(self, tokens):
        self.tokens = tokens
        self.place = 0
        self.records = []

    def look(self):
        return self.tokens[self.place]

    def sees(self, kind):
        return self.look().kind == kind

    def take(self, kind):
        token = self.look()
        if token.kind != kind:
            raise Fault(3, token.place)
        self.place += 1
        return token

    def take_name(self, earlier):
        token = self.take("name")
        if token.text in earlier:
            raise Fault(5, token.place)
        return token.text

    def take_number(self, least, greatest):
        token = self.take("number")
        number = int(token.text)
        if number < least or number > greatest:
            raise Fault(7, token.place)
        return number


def records_of(text):
    if len(text) > LONGEST_TEXT:
        raise Fault(1, LONGEST_TEXT)
    reader = Reader(tokens_of(text))
    while not reader.records or not reader.sees("end"):
        reader.records.append(read_record(reader))
    if sum([len(record.lines()) for record in reader.records]) > LONGEST_ONE_FORM:
        raise Fault(16, 0)
    return reader.records


def read_record(reader):
    start = reader.take("record")
    if len(reader.records) == MOST_RECORDS:
        raise Fault(4, start.place)
    name = reader.take_name([record.name for record in reader.records])
    reader.take("{")
    fields = []
    while not fields or not reader.sees("}"):
        fields.append(read_field(reader, fields))
    reader.take("}")
    record = Record(name, fields)
    if record.leaves > MOST_LEAVES:
        raise Fault(15, start.place)
    return record


def read_field(reader, earlier):
    name = reader.take_name([field.name for field in earlier])
    reader.take(":")
    inner = read_kind(reader, 1)
    hot = 1
    if reader.sees("hot"):
        reader.take("hot")
        hot = reader.take_number(1, HOTTEST)
    reader.take(";")
    return Field(name, inner, hot)


# How deep it stands is looked at first: what would be too deep is refused whatever it is.
def read_kind(reader, deep):
    if deep > MOST_DEEP:
        raise Fault(4, reader.look().place)
    if reader.sees("from"):
        return read_number(reader)
    if reader.sees("maybe"):
        reader.take("maybe")
        return Maybe(read_kind(reader, deep + 1))
    if reader.sees("many"):
        reader.take("many")
        times = reader.take_number(1, MOST_TIMES)
        return Many(times, read_kind(reader, deep + 1))
    if reader.sees("one"):
        return read_one(reader, deep)
    return read_named(reader)


def read_number(reader):
    reader.take("from")
    first = read_value(reader)
    reader.take("to")
    last = read_last(reader, first)
    return Number(first, last, read_align(reader))


def read_value(reader):
    if reader.sees("-"):
        reader.take("-")
        return -reader.take_number(0, GREATEST_VALUE)
    return reader.take_number(0, GREATEST_VALUE)


def read_last(reader, first):
    last = read_value(reader)
    if last < first:
        raise Fault(7, reader.tokens[reader.place - 1].place)
    return last


def read_align(reader):
    if not reader.sees("at"):
        return 1
    reader.take("at")
    token = reader.take("number")
    if int(token.text) not in ALIGNS:
        raise Fault(7, token.place)
    return int(token.text)


def read_one(reader, deep):
    reader.take("one")
    reader.take("{")
    names = []
    alternatives = []
    while len(names) < FEWEST_ALTERNATIVES or not reader.sees("}"):
        if names:
            reader.take(",")
        if len(names) == MOST_ALTERNATIVES:
            raise Fault(4, reader.look().place)
        names.append(reader.take_name(names))
        reader.take(":")
        alternatives.append(read_kind(reader, deep + 1))
    reader.take("}")
    return One(names, alternatives)


def read_named(reader):
    token = reader.take("name")
    for record in reader.records:
        if record.name == token.text:
            return record
    raise Fault(6, token.place)
