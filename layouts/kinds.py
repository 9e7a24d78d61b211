"""The kinds that values are of: their leaves, sizes and forms, where a value's bits lie, and which number it has.

Each kind has `leaves`, `flat`, `shared`, `bits` and `spare`, the last two being its form; `how_many` tells how
many values it has, `one_form` how it is written. `bits_told` and `number_told` tell the bits and the number of the
value that a cursor's numbers tell; `value_with` and `value_at` tell the value with these bits, or this number.

`value_with` is asked with any bits, more than the form has, too: each kind refuses all that are not just a value's.
So what is not needed has to be 0 wherever it lies: it comes to a number, or is left over behind a row.
`value_at` is asked only with numbers that values have.
"""

from layouts.cursor import NoValue
from layouts.spare import bits_for, codes_to_spare, greatest_spare, nothing_spare


class Number:
    def __init__(self, first, last, align):
        self.first = first
        self.last = last
        self.align = align
        self.leaves = 1
        self.bits = bits_for(self.how_many())
        self.spare = codes_to_spare(self.bits, self.how_many())
        self.flat = max(1, self.bits)
        self.shared = self.flat

    def how_many(self):
        return self.last - self.first + 1

    def one_form(self):
        text = "from " + str(self.first) + " to " + str(self.last)
        if self.align == 1:
            return text
        return text + " at " + str(self.align)

    def bits_told(self, cursor):
        return cursor.draw(self.first, self.last) - self.first

    def number_told(self, cursor):
        return self.bits_told(cursor)

    def value_with(self, bits):
        if bits >= self.how_many():
            raise NoValue()
        return self.value_at(bits)

    def value_at(self, number):
        return [self.first + number]


class Maybe:
    def __init__(self, inner):
        self.inner = inner
        self.leaves = 1 + inner.leaves
        self.flat = 1 + inner.flat
        self.shared = 1 + inner.shared
        self.tagged = inner.spare.left == 0
        if self.tagged:
            self.bits = 1 + inner.bits
            self.spare = nothing_spare()
        else:
            self.bits = inner.bits
            self.spare = inner.spare.without(1)

    def how_many(self):
        return 1 + self.inner.how_many()

    def one_form(self):
        return "maybe " + self.inner.one_form()

    def bits_told(self, cursor):
        if cursor.draw(0, 1) == 0:
            return self.bits_of_nothing()
        bits = self.inner.bits_told(cursor)
        if self.tagged:
            return (bits << 1) | 1
        return bits

    def bits_of_nothing(self):
        if self.tagged:
            return 0
        return self.inner.spare.bits_with(0)

    def number_told(self, cursor):
        if cursor.draw(0, 1) == 0:
            return 0
        return 1 + self.inner.number_told(cursor)

    def value_with(self, bits):
        if bits == self.bits_of_nothing():
            return [0]
        if not self.tagged:
            return [1] + self.inner.value_with(bits)
        if bits & 1 == 0:
            raise NoValue()
        return [1] + self.inner.value_with(bits >> 1)

    def value_at(self, number):
        if number == 0:
            return [0]
        return [1] + self.inner.value_at(number - 1)


class One:
    def __init__(self, names, alternatives):
        self.names = names
        self.alternatives = alternatives
        self.tag = bits_for(len(alternatives))
        self.leaves = 1 + sum([inner.leaves for inner in alternatives])
        self.flat = self.tag + sum([inner.flat for inner in alternatives])
        self.shared = self.tag + max([inner.shared for inner in alternatives])
        self.carrier = carrier_of(alternatives)
        if self.carrier is None:
            self.bits = self.tag + max([inner.bits for inner in alternatives])
            self.spare = codes_to_spare(self.tag, len(alternatives))
        else:
            self.bits = alternatives[self.carrier].bits
            self.spare = alternatives[self.carrier].spare.without(len(alternatives) - 1)

    def how_many(self):
        return sum([inner.how_many() for inner in self.alternatives])

    def one_form(self):
        told = []
        for name, inner in zip(self.names, self.alternatives):
            told.append(name + " : " + inner.one_form())
        return "one { " + ", ".join(told) + " }"

    # What stands in an alternative without bits is read all the same: its numbers may tell no value.
    def bits_told(self, cursor):
        number = cursor.draw(0, len(self.alternatives) - 1)
        bits = self.alternatives[number].bits_told(cursor)
        if self.carrier is None:
            return (bits << self.tag) | number
        if number == self.carrier:
            return bits
        return self.bits_beside_carrier(number)

    def bits_beside_carrier(self, number):
        spare = self.alternatives[self.carrier].spare
        if number < self.carrier:
            return spare.bits_with(number)
        return spare.bits_with(number - 1)

    def number_told(self, cursor):
        number = cursor.draw(0, len(self.alternatives) - 1)
        before = sum([inner.how_many() for inner in self.alternatives[:number]])
        return before + self.alternatives[number].number_told(cursor)

    def value_with(self, bits):
        if self.carrier is None:
            return self.value_with_tag(bits & ((1 << self.tag) - 1), bits >> self.tag)
        for number, inner in enumerate(self.alternatives):
            if number != self.carrier and bits == self.bits_beside_carrier(number):
                return [number] + inner.value_at(0)
        return [self.carrier] + self.alternatives[self.carrier].value_with(bits)

    def value_with_tag(self, number, bits):
        if number >= len(self.alternatives):
            raise NoValue()
        return [number] + self.alternatives[number].value_with(bits)

    def value_at(self, number):
        chosen = 0
        rest = number
        while rest >= self.alternatives[chosen].how_many():
            rest -= self.alternatives[chosen].how_many()
            chosen += 1
        return [chosen] + self.alternatives[chosen].value_at(rest)


# The one alternative with bits whose spare values can tell all others, or None.
def carrier_of(alternatives):
    with_bits = [number for number, inner in enumerate(alternatives) if inner.bits > 0]
    if len(with_bits) != 1:
        return None
    if alternatives[with_bits[0]].spare.left < len(alternatives) - 1:
        return None
    return with_bits[0]


# Parts one behind the other: what a many and a record have in common.
class Row:
    def __init__(self, parts):
        self.parts = parts
        self.leaves = sum([part.leaves for part in parts])
        self.flat = sum([part.flat for part in parts])
        self.shared = sum([part.shared for part in parts])
        self.bits = sum([part.bits for part in parts])
        self.spare = greatest_spare(parts)

    # Counted only when asked for: of a record that is refused for its leaves the number would be huge.
    def how_many(self):
        product = 1
        for part in self.parts:
            product *= part.how_many()
        return product

    def bits_told(self, cursor):
        bits = 0
        offset = 0
        for part in self.parts:
            bits |= part.bits_told(cursor) << offset
            offset += part.bits
        return bits

    def number_told(self, cursor):
        number = 0
        for part in self.parts:
            number = number * part.how_many() + part.number_told(cursor)
        return number

    def value_with(self, bits):
        value = []
        rest = bits
        for part in self.parts:
            value.extend(part.value_with(rest & ((1 << part.bits) - 1)))
            rest = rest >> part.bits
        if rest > 0:
            raise NoValue()
        return value

    # The last part changes fastest, so the parts' numbers are found from the last one on.
    def value_at(self, number):
        found = []
        rest = number
        for part in reversed(self.parts):
            found.append(part.value_at(rest % part.how_many()))
            rest = rest // part.how_many()
        value = []
        for numbers in reversed(found):
            value.extend(numbers)
        return value


class Many(Row):
    def __init__(self, times, inner):
        Row.__init__(self, [inner for step in range(times)])
        self.times = times
        self.inner = inner

    def one_form(self):
        return "many " + str(self.times) + " " + self.inner.one_form()


class Field:
    def __init__(self, name, inner, hot):
        self.name = name
        self.inner = inner
        self.hot = hot

    def line(self):
        text = self.name + " : " + self.inner.one_form()
        if self.hot != 1:
            text += " hot " + str(self.hot)
        return text + " ;\n"


class Record(Row):
    def __init__(self, name, fields):
        Row.__init__(self, [field.inner for field in fields])
        self.name = name
        self.fields = fields

    # Where a record stands within another one, its name alone is written.
    def one_form(self):
        return self.name

    def lines(self):
        return "record " + self.name + " {\n" + "".join([field.line() for field in self.fields]) + "}\n"
