"""Bits told as bytes, the lowest eight first, and read back."""


class NotSuchBytes(Exception):
    pass


def room_for(bits):
    return (bits + 7) // 8


# How many bytes have room for so many bits, and they.
def bytes_told(number, bits):
    room = room_for(bits)
    return [room] + [(number >> (8 * place)) & 255 for place in range(room)]


# Bits above those that are asked for are read, too: that they are no value's is for the kinds to tell.
def number_read(row, bits):
    if len(row) != room_for(bits):
        raise NotSuchBytes()
    number = 0
    for place, byte in enumerate(row):
        if byte < 0 or byte > 255:
            raise NotSuchBytes()
        number |= byte << (8 * place)
    return number
