"""Documents: a table of changes and a row of pieces.

A change is a tuple of author, time, kind and the time's numeral. The numeral is kept beside the
time, since a time may have more digits than Python writes.
A piece is a tuple of a sign and a dress; a dress is a tuple of a look, insertions, deletions,
pending looks (each a tuple of change, property and value) and tags, all of them tuples.
A document is never altered once it is made, so documents may share what they hold.
"""

from trackedtextdesk.signs import LINE_END

AUTHOR = 0
TIME = 1
KIND = 2
NUMERAL = 3

PUT = 1
CUT = 2
PAINT = 3
MOVE = 4
KIND_WORDS = ("put", "cut", "paint", "move")

SIGN = 0
DRESS = 1

LOOK = 0
INSERTIONS = 1
DELETIONS = 2
PENDING = 3
TAGS = 4


class Document:
    """A table of changes and a row of pieces."""

    def __init__(self, table, row):
        self.table = table
        self.row = row


def plain_dress():
    return ((0, 0, 0, 0), (), (), (), ())


def new_document():
    return Document([], [(LINE_END, plain_dress())])


def is_put_or_cut(dress):
    """Whether there are insertions or deletions, which the row's last piece must not have."""
    return len(dress[INSERTIONS]) > 0 or len(dress[DELETIONS]) > 0


def paragraph_ends(row):
    """The place of each paragraph's end in the row."""
    return [at for at, piece in enumerate(row) if piece[SIGN] == LINE_END]
