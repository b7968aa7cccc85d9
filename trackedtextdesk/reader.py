"""The reader: what document a text tells, or its fault."""

from trackedtextdesk.document import DRESS, KIND_WORDS, Document, is_put_or_cut
from trackedtextdesk.marks import dress_of, is_at_odds, is_out_of_range, items_of
from trackedtextdesk.signs import BLANK, LAST_SIGN, LINE_END, cut_at_blanks, is_numeral, numbers_of, value_of
from trackedtextdesk.spans import spans_of

FINE = 0
NOT_A_LINE = 1
NOT_THE_SHAPE = 2
NOT_THE_WORDS = 3
OUT_OF_RANGE = 4
AT_ODDS = 5
END_NOT_PLAIN = 6
LINE_MISSING = 7

AT_FIRST_LINE = 0
AT_CHANGES = 1
AT_PARAGRAPHS = 2

GREATEST_AUTHOR = 99


class Line:
    """A line of a text: its numbers, whether it's ended, whether it's the last."""

    def __init__(self, numbers, ended, last):
        self.numbers = numbers
        self.ended = ended
        self.last = last


class Reading:
    """What has been read of a text: the document so far, and the fault, 0 and 0 while there's none."""

    def __init__(self):
        self.document = Document([], [])
        self.awaited = AT_FIRST_LINE
        self.line = 0
        self.reason = FINE

    def fail(self, line, reason):
        self.line = line
        self.reason = reason


def read_text(text):
    reading = Reading()
    lines = lines_of(text)
    for number, line in enumerate(lines, start=1):
        reason = read_line(reading, line)
        if reason != FINE:
            reading.fail(number, reason)
            return reading
    if len(reading.document.row) == 0:
        reading.fail(len(lines) + 1, LINE_MISSING)
    return reading


def lines_of(text):
    lines = []
    start = 0
    for at, number in enumerate(text):
        if number == LINE_END:
            lines.append(Line(text[start:at], True, at + 1 == len(text)))
            start = at + 1
    if start < len(text):
        lines.append(Line(text[start:], False, True))
    return lines


def read_line(reading, line):
    """Takes a line into the reading and gives FINE, or gives the reason why it can't be taken."""
    numbers = line.numbers
    if not line.ended or min(numbers, default=BLANK) < BLANK or max(numbers, default=BLANK) > LAST_SIGN:
        return NOT_A_LINE
    if reading.awaited == AT_PARAGRAPHS:
        return read_paragraph(reading.document, line)
    if reading.awaited == AT_FIRST_LINE:
        reading.awaited = AT_CHANGES
        return FINE if numbers == numbers_of("tracked 1") else NOT_THE_SHAPE
    if numbers == numbers_of("text"):
        reading.awaited = AT_PARAGRAPHS
        return FINE
    return read_change(reading.document.table, cut_at_blanks(numbers))


def read_change(table, parts):
    if not is_change_shape(parts):
        return NOT_THE_SHAPE
    if not all([is_numeral(part) for part in (parts[1], parts[3], parts[5])]):
        return NOT_THE_WORDS
    number = value_of(parts[1])
    author = value_of(parts[3])
    if number != len(table) + 1 or not 1 <= author <= GREATEST_AUTHOR:
        return OUT_OF_RANGE
    table.append((author, value_of(parts[5]), kind_of(parts[6]), tuple(parts[5])))
    return FINE


def is_change_shape(parts):
    if len(parts) != 7 or kind_of(parts[6]) is None:
        return False
    return [parts[0], parts[2], parts[4]] == [numbers_of("change"), numbers_of("by"), numbers_of("at")]


def kind_of(part):
    for kind, word in enumerate(KIND_WORDS, start=1):
        if part == numbers_of(word):
            return kind
    return None


def read_paragraph(document, line):
    spans = spans_of(line.numbers)
    if spans is None:
        return NOT_THE_SHAPE
    # Each reason is looked for in all marks of the line before the next reason is.
    told = [items_of(span.marks) for span in spans]
    if None in told:
        return NOT_THE_WORDS
    if any([is_out_of_range(items, len(document.table)) for items in told]):
        return OUT_OF_RANGE
    if any([is_at_odds(items, document.table) for items in told]):
        return AT_ODDS
    pieces = pieces_of(spans, told)
    if line.last and is_put_or_cut(pieces[-1][DRESS]):
        return END_NOT_PLAIN
    document.row.extend(pieces)
    return FINE


def pieces_of(spans, told):
    pieces = []
    for span, items in zip(spans, told):
        dress = dress_of(items)
        pieces.extend([(sign, dress) for sign in span.signs])
    return pieces
