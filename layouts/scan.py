"""From a text's bytes to its tokens."""

from layouts.faults import Fault

WORDS = ("record", "from", "to", "at", "maybe", "many", "one", "hot", "layout", "size", "of")
LETTERS = "abcdefghijklmnopqrstuvwxyzABCDEFGHIJKLMNOPQRSTUVWXYZ"
DIGITS = "0123456789"
SIGNS = "{},;:-."
LONGEST_NAME = 16
GREATEST_NUMBER = 1000000000
MOST_DIGITS = 10


# Its kind is "name", "number" or "end", or the word or the sign that it is: none of these three is a word.
class Token:
    def __init__(self, kind, text, place):
        self.kind = kind
        self.text = text
        self.place = place


def tokens_of(text):
    signs = signs_of(text)
    tokens = []
    place = 0
    while place < len(signs):
        if signs[place] == " " or signs[place] == "\n":
            place += 1
        elif signs[place] == "#":
            place = remark_end(signs, place)
        else:
            token = token_at(signs, place)
            tokens.append(token)
            place += len(token.text)
    tokens.append(Token("end", "", len(text)))
    return tokens


# A byte that begins no token, blank or remark becomes a question mark, which begins none either.
def signs_of(text):
    known = {9: " ", 10: "\n", 32: " ", 35: "#"}
    for sign in LETTERS + DIGITS + SIGNS:
        known[ord(sign)] = sign
    return [known.get(byte, "?") for byte in text]


def remark_end(signs, place):
    while place < len(signs) and signs[place] != "\n":
        place += 1
    return place


def token_at(signs, place):
    sign = signs[place]
    if sign in LETTERS:
        return word_at(signs, place)
    if sign in DIGITS:
        return number_at(signs, place)
    if sign in SIGNS:
        return Token(sign, sign, place)
    raise Fault(2, place)


def word_at(signs, place):
    text = run_at(signs, place, LETTERS + DIGITS)
    if len(text) > LONGEST_NAME:
        raise Fault(2, place)
    if text in WORDS:
        return Token(text, text, place)
    return Token("name", text, place)


def number_at(signs, place):
    text = run_at(signs, place, DIGITS)
    if len(text) > 1 and text[0] == "0":
        raise Fault(2, place)
    if len(text) > MOST_DIGITS or int(text) > GREATEST_NUMBER:
        raise Fault(2, place)
    return Token("number", text, place)


def run_at(signs, place, allowed):
    after = place
    while after < len(signs) and signs[after] in allowed:
        after += 1
    return "".join(signs[place:after])
