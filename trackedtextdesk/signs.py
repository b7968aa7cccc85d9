"""The signs that mean something in a text, and the numerals."""

LINE_END = 10
BLANK = 32
LAST_SIGN = 126

TAG = 35
PENDING_LOOK = 42
INSERTION = 43
DELETION = 45
COLON = 58
LEFT = 91
BACKSLASH = 92
RIGHT = 93
BAR = 124

FIRST_DIGIT = 48
LAST_DIGIT = 57

PROPERTIES = "abcd"
FIRST_PROPERTY = 97
LAST_PROPERTY = 100

STRIDE = 18
STRIDE_RANGE = 1000000000000000000


def numbers_of(words):
    return [ord(letter) for letter in words]


def is_numeral(numbers):
    if len(numbers) == 0 or min(numbers) < FIRST_DIGIT or max(numbers) > LAST_DIGIT:
        return False
    return len(numbers) == 1 or numbers[0] != FIRST_DIGIT


def value_of(numeral):
    """What a numeral says, however long it is."""
    # Many digits at a stride: a numeral may be as long as its text, and digit by digit that is slow.
    start = len(numeral) % STRIDE
    value = value_of_digits(numeral[:start])
    while start < len(numeral):
        behind = start + STRIDE
        value = value * STRIDE_RANGE + value_of_digits(numeral[start:behind])
        start = behind
    return value


def value_of_digits(digits):
    value = 0
    for digit in digits:
        value = value * 10 + digit - FIRST_DIGIT
    return value


def cut_at_blanks(numbers):
    parts = []
    part = []
    for number in numbers:
        if number == BLANK:
            parts.append(part)
            part = []
        else:
            part.append(number)
    parts.append(part)
    return parts
