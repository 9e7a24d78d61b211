"""The calls on an object that holds records."""

from layouts.cursor import Cursor, NoValue
from layouts.faults import Fault
from layouts.reading import records_of
from layouts.rows import NotSuchBytes, bytes_told, number_read
from layouts.spare import bits_for

LOAD = 0
SIZES = 1
NICHE = 2
ENC = 3
DEC = 4
PACK = 5
RANK = 7
CALLS_OF_A_RECORD = (1, 2, 3, 4, 5, 6)
CALLS_WITH_A_ROW = (0, 3, 4, 5, 6)
NO_RECORDS = -1
NO_SUCH_RECORD = -2
NO_SUCH_VALUE = -4
NO_SUCH_BYTES = -5


def answers(calls):
    holder = Holder()
    told = []
    for number, index, row in split_calls(calls):
        answer = holder.answer(number, index, row)
        told.append(len(answer))
        told.extend(answer)
    return told


# A call as its number, its record's number and its row; 0 and an empty row where it has none.
def split_calls(calls):
    found = []
    place = 0
    while place < len(calls):
        number = calls[place]
        place += 1
        index = 0
        if number in CALLS_OF_A_RECORD:
            index = calls[place]
            place += 1
        row = []
        if number in CALLS_WITH_A_ROW:
            start = place + 1
            place = start + calls[place]
            row = calls[start:place]
        found.append((number, index, row))
    return found


class Holder:
    def __init__(self):
        self.records = []

    def answer(self, number, index, row):
        if number == LOAD:
            return self.load(row)
        if not self.records:
            return [NO_RECORDS]
        if number == RANK:
            return rank(self.records)
        if index < 0 or index >= len(self.records):
            return [NO_SUCH_RECORD]
        return answer_of_record(self.records[index], number, row)

    def load(self, text):
        try:
            records = records_of(text)
        except Fault as fault:
            return [0, fault.code, fault.place]
        self.records = records
        return [1, len(records)] + [record.leaves for record in records]


def answer_of_record(record, number, row):
    try:
        return told_of_record(record, number, row)
    except NotSuchBytes:
        return [NO_SUCH_BYTES]
    except NoValue:
        return [NO_SUCH_VALUE]


def told_of_record(record, number, row):
    if number == SIZES:
        return [1] + sizes(record)
    if number == NICHE:
        return niche(record)
    if number == ENC:
        return enc(record, row)
    if number == DEC:
        return dec(record, row)
    if number == PACK:
        return pack(record, row)
    return unpack(record, row)


def sizes(record):
    return [record.flat, record.shared, record.bits, packed_bits(record)]


def packed_bits(record):
    return bits_for(record.how_many())


def niche(record):
    spare = record.spare
    if spare.left == 0:
        return [record.bits, 0]
    return [record.bits, spare.left, spare.at, spare.width, spare.first]


def enc(record, value):
    cursor = Cursor(value)
    bits = record.bits_told(cursor)
    cursor.end()
    return bytes_told(bits, record.bits)


def dec(record, row):
    value = record.value_with(number_read(row, record.bits))
    return [len(value)] + value


def pack(record, value):
    cursor = Cursor(value)
    number = record.number_told(cursor)
    cursor.end()
    return bytes_told(number, packed_bits(record))


def unpack(record, row):
    number = number_read(row, packed_bits(record))
    if number >= record.how_many():
        raise NoValue()
    value = record.value_at(number)
    return [len(value)] + value


def rank(records):
    told = [len(records)]
    for record in records:
        told.extend(sizes(record))
    return told
