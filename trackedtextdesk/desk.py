"""The desk: the object that calls work on, with a document that it holds."""

from trackedtextdesk.document import DRESS, SIGN, Document, is_put_or_cut, new_document, paragraph_ends
from trackedtextdesk.listing import counted, listed_paragraphs, listed_pieces, listed_table
from trackedtextdesk.numbering import joined, tidied
from trackedtextdesk.reader import FINE, read_text
from trackedtextdesk.views import BEFORE, SHOWN, WHOLE, settled, viewed_row
from trackedtextdesk.writer import first_line_apart, one_form

NOT_THE_ONE_FORM = 8


class Desk:
    """Holds one document; each call answers a list of numbers."""

    def __init__(self):
        self.document = new_document()

    def read(self, text):
        reading = read_text(text)
        if reading.reason == FINE:
            self.document = reading.document
        return [reading.line, reading.reason]

    def strict(self, text):
        reading = read_text(text)
        if reading.reason != FINE:
            return [reading.line, reading.reason]
        line = first_line_apart(text, one_form(reading.document))
        if line > 0:
            return [line, NOT_THE_ONE_FORM]
        self.document = reading.document
        return [reading.line, reading.reason]

    def form(self):
        return counted(one_form(self.document))

    def same(self, text):
        reading = read_text(text)
        if reading.reason != FINE:
            return [-1]
        told = reading.document
        is_same = told.table == self.document.table and told.row == self.document.row
        return [1 if is_same else 0]

    def join(self, text):
        reading = read_text(text)
        if reading.reason == FINE:
            self.document = joined(self.document, reading.document)
        return [reading.line, reading.reason]

    def part(self, first, behind):
        row = self.document.row
        ends = paragraph_ends(row)
        if not 0 <= first < behind <= len(ends):
            return [-1]
        last = ends[behind - 1]
        if is_put_or_cut(row[last][DRESS]):
            return [-3]
        start = ends[first - 1] + 1 if first > 0 else 0
        kept = row[start:last + 1]
        self.document = Document(self.document.table, kept)
        return [len(row) - len(kept)]

    def tidy(self):
        before = len(self.document.table)
        self.document = tidied(self.document)
        return [before - len(self.document.table)]

    def settle(self, view):
        if view not in (SHOWN, BEFORE):
            return [-2]
        before = len(self.document.row)
        self.document = settled(self.document, view)
        return [before - len(self.document.row)]

    def plain(self, view):
        if view not in (WHOLE, SHOWN, BEFORE):
            return [-2]
        return counted([piece[SIGN] for piece in viewed_row(self.document.row, view)])

    def pieces(self):
        return listed_pieces(self.document.row)

    def changes(self):
        return listed_table(self.document.table)

    def paragraphs(self):
        return listed_paragraphs(self.document.row)
