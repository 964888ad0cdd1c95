"""A text's tokens."""

from factrulesdesk.refusals import TextFault

NO_TOKEN = 1
TOKEN_TOO_LONG = 2

LONGEST_NAME = 10
LONGEST_NUMBER = 9

BLANKS = (10, 32)
LESS = 60

# A text of this package can't hold the sign of the byte 37, so its kind has a name.
SIGNS = {
    37: "modulo", 40: "(", 41: ")", 42: "*", 43: "+", 44: ",", 45: "-",
    47: "/", 59: ";", 60: "<", 61: "=", 123: "{", 125: "}",
}
SIGNS_BEHIND_LESS = {61: "<=", 62: "<>"}

RESERVED = ("rule", "keep", "take", "if", "put", "fail", "level")


class Token:
    """A token: its kind, its place in the text, and its bytes.

    The kind is word, unknown, number or end, or else the sign or the reserved word itself.
    """

    def __init__(self, kind, place, spelling):
        self.kind = kind
        self.place = place
        self.spelling = spelling


def bytes_of(text):
    """Give the bytes of a text of ASCII signs."""
    return [ord(sign) for sign in text]


def is_digit(byte):
    return 48 <= byte <= 57


def is_small_letter(byte):
    return 97 <= byte <= 122


def is_letter(byte):
    return is_small_letter(byte) or 65 <= byte <= 90


def is_letter_or_digit(byte):
    return is_letter(byte) or is_digit(byte)


def run_at(text, place, belongs):
    """Give all bytes from the place on that belong, up to the first one that doesn't."""
    end = place
    while end < len(text) and belongs(text[end]):
        end += 1
    return tuple(text[place:end])


def name_kind(spelling, reserved):
    if not is_small_letter(spelling[0]):
        return "unknown"
    return reserved.get(spelling, "word")


def name_token(text, place, reserved):
    spelling = run_at(text, place, is_letter_or_digit)
    if len(spelling) > LONGEST_NAME:
        raise TextFault(place, TOKEN_TOO_LONG)
    return Token(name_kind(spelling, reserved), place, spelling)


def number_token(text, place):
    spelling = run_at(text, place, is_digit)
    if len(spelling) > LONGEST_NUMBER:
        raise TextFault(place, TOKEN_TOO_LONG)
    return Token("number", place, spelling)


def sign_token(text, place):
    byte = text[place]
    if byte not in SIGNS:
        raise TextFault(place, NO_TOKEN)
    behind = text[place + 1:place + 2]
    if byte == LESS and behind and behind[0] in SIGNS_BEHIND_LESS:
        return Token(SIGNS_BEHIND_LESS[behind[0]], place, (byte, behind[0]))
    return Token(SIGNS[byte], place, (byte,))


def token_at(text, place, reserved):
    if is_letter(text[place]):
        return name_token(text, place, reserved)
    if is_digit(text[place]):
        return number_token(text, place)
    return sign_token(text, place)


def reserved_kinds():
    """Give the kind of each reserved word by its bytes."""
    kinds = {}
    for word in RESERVED:
        kinds[tuple(bytes_of(word))] = word
    return kinds


def cut(text):
    """Give the text's tokens, and behind them one of the kind end at the text's length."""
    reserved = reserved_kinds()
    tokens = []
    place = 0
    while place < len(text):
        if text[place] in BLANKS:
            place += 1
        else:
            token = token_at(text, place, reserved)
            tokens.append(token)
            place += len(token.spelling)
    tokens.append(Token("end", len(text), ()))
    return tokens
