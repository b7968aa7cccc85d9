"""The desk: the object that calls work on, with a document that it holds."""

from trackedtextdesk.document import DRESS, Document, is_put_or_cut, joined, new_document, paragraph_ends
from trackedtextdesk.reader import FINE, read_text
from trackedtextdesk.writer import first_line_apart, one_form

NOT_THE_ONE_FORM = 8


class Desk:
    """Holds one document; each call answers a list of numbers."""

    def __init__(self):
        self.document = new_document()

    def read(self, text):
        reading = read_text(text)
        if reading.reason == FINE:
            self.document = reading.document
        return [reading.line, reading.reason]

    def strict(self, text):
        reading = read_text(text)
        if reading.reason != FINE:
            return [reading.line, reading.reason]
        line = first_line_apart(text, one_form(reading.document))
        if line > 0:
            return [line, NOT_THE_ONE_FORM]
        self.document = reading.document
        return [reading.line, reading.reason]

    def form(self):
        form = one_form(self.document)
        return [len(form)] + form

    def same(self, text):
        reading = read_text(text)
        if reading.reason != FINE:
            return [-1]
        told = reading.document
        is_same = told.table == self.document.table and told.row == self.document.row
        return [1 if is_same else 0]

    def join(self, text):
        reading = read_text(text)
        if reading.reason == FINE:
            self.document = joined(self.document, reading.document)
        return [reading.line, reading.reason]

    def part(self, first, behind):
        row = self.document.row
        ends = paragraph_ends(row)
        if not 0 <= first < behind <= len(ends):
            return [-1]
        last = ends[behind - 1]
        if is_put_or_cut(row[last][DRESS]):
            return [-3]
        start = ends[first - 1] + 1 if first > 0 else 0
        kept = row[start:last + 1]
        self.document = Document(self.document.table, kept)
        return [len(row) - len(kept)]
