"""The shape of a paragraph's line: spans of signs with the marks they stand under."""

from trackedtextdesk.signs import BACKSLASH, BAR, LEFT, LINE_END, RIGHT


class Span:
    """Signs under the same marks, and the place in the line behind them."""

    def __init__(self, marks, signs, behind):
        self.marks = marks
        self.signs = signs
        self.behind = behind


def spans_of(line):
    """The spans of a paragraph's line, its end the last of them, or None if it hasn't the shape."""
    spans = []
    at = 0
    while at < len(line):
        span = span_at(line, at)
        if span is None:
            return None
        spans.append(span)
        at = span.behind
    if len(spans) == 0 or spans[-1].signs != [LINE_END]:
        spans.append(Span([], [LINE_END], at))
    return spans


def span_at(line, at):
    if line[at] == RIGHT:
        return None
    if line[at] == LEFT:
        return bracketed_span(line, at + 1)
    return sign_span(line, at, [])


def bracketed_span(line, start):
    behind = start
    while behind < len(line) and line[behind] not in (LEFT, RIGHT, BAR, BACKSLASH):
        behind += 1
    if behind == len(line):
        return None
    marks = line[start:behind]
    if line[behind] == BAR:
        return closed_span(line, behind + 1, marks)
    if line[behind] == RIGHT and behind + 1 == len(line):
        return Span(marks, [LINE_END], behind + 1)
    return None


def closed_span(line, start, marks):
    span = sign_span(line, start, marks)
    if span is None or span.behind == len(line) or line[span.behind] == LEFT:
        return None
    return Span(marks, span.signs, span.behind + 1)


def sign_span(line, start, marks):
    """The signs up to the next bracket or the line's end, or None if a last backslash has no sign."""
    signs = []
    at = start
    while at < len(line) and line[at] not in (LEFT, RIGHT):
        if line[at] == BACKSLASH:
            at += 1
            if at == len(line):
                return None
        signs.append(line[at])
        at += 1
    return Span(marks, signs, at)
