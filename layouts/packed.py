"""The calls on an object that holds records."""

from layouts.cursor import Cursor, NoValue
from layouts.faults import Fault
from layouts.reading import records_of
from layouts.spare import bits_for

LOAD = 0
SIZES = 1
NICHE = 2
ENC = 3
RANK = 7
CALLS_OF_A_RECORD = (1, 2, 3, 4, 5, 6)
CALLS_WITH_A_ROW = (0, 3, 4, 5, 6)
NO_RECORDS = -1
NO_SUCH_RECORD = -2
NO_SUCH_VALUE = -4


def answers(calls):
    holder = Holder()
    told = []
    for number, index, row in split_calls(calls):
        answer = holder.answer(number, index, row)
        told.append(len(answer))
        told.extend(answer)
    return told


# A call as its number, its record's number and its row; 0 and an empty row where it has none.
def split_calls(calls):
    found = []
    place = 0
    while place < len(calls):
        number = calls[place]
        place += 1
        index = 0
        if number in CALLS_OF_A_RECORD:
            index = calls[place]
            place += 1
        row = []
        if number in CALLS_WITH_A_ROW:
            start = place + 1
            place = start + calls[place]
            row = calls[start:place]
        found.append((number, index, row))
    return found


class Holder:
    def __init__(self):
        self.records = []

    def answer(self, number, index, row):
        if number == LOAD:
            return self.load(row)
        if not self.records:
            return [NO_RECORDS]
        if number == RANK:
            raise NotImplementedError("rank is not written yet")
        if index < 0 or index >= len(self.records):
            return [NO_SUCH_RECORD]
        return answer_of_record(self.records[index], number, row)

    def load(self, text):
        try:
            records = records_of(text)
        except Fault as fault:
            return [0, fault.code, fault.place]
        self.records = records
        return [1, len(records)] + [record.leaves for record in records]


def answer_of_record(record, number, row):
    if number == SIZES:
        return [1] + sizes(record)
    if number == NICHE:
        return niche(record)
    if number == ENC:
        return enc(record, row)
    raise NotImplementedError("dec, pack and unpack are not written yet")


def sizes(record):
    return [record.flat, record.shared, record.bits, bits_for(record.how_many())]


def niche(record):
    spare = record.spare
    if spare.left == 0:
        return [record.bits, 0]
    return [record.bits, spare.left, spare.at, spare.width, spare.first]


def enc(record, value):
    cursor = Cursor(value)
    try:
        bits = record.bits_told(cursor)
    except NoValue:
        return [NO_SUCH_VALUE]
    if not cursor.ended():
        return [NO_SUCH_VALUE]
    return bytes_told(bits, record.bits)


# How many bytes have room for so many bits, and they, the lowest first.
def bytes_told(number, bits):
    room = (bits + 7) // 8
    return [room] + [(number >> (8 * place)) & 255 for place in range(room)]
