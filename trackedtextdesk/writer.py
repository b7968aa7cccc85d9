"""The writer: the one form of a document."""

from trackedtextdesk.document import AUTHOR, KIND, KIND_WORDS, NUMERAL, plain_dress
from trackedtextdesk.marks import written_marks
from trackedtextdesk.signs import BACKSLASH, BAR, LEFT, LINE_END, RIGHT, numbers_of


def one_form(document):
    form = numbers_of("tracked 1\n")
    for number, change in enumerate(document.table, start=1):
        form.extend(change_line(number, change))
    form.extend(numbers_of("text\n"))
    form.extend(row_lines(document.row))
    return form


def change_line(number, change):
    author = change[AUTHOR]
    word = KIND_WORDS[change[KIND] - 1]
    return numbers_of(f"change {number} by {author} at ") + list(change[NUMERAL]) + numbers_of(f" {word}\n")


def row_lines(row):
    lines = []
    plain = plain_dress()
    # The dress of the pieces written last: while it's plain, no bracket waits to be closed.
    worn = plain
    for sign, dress in row:
        is_end = sign == LINE_END
        if is_end or dress != worn:
            if worn != plain:
                lines.append(RIGHT)
            if dress != plain:
                lines.extend([LEFT] + numbers_of(written_marks(dress)) + [RIGHT if is_end else BAR])
        worn = plain if is_end else dress
        if sign in (LEFT, RIGHT, BACKSLASH):
            lines.append(BACKSLASH)
        lines.append(sign)
    return lines


def first_line_apart(text, form):
    """The number of the first line in which two texts differ, 0 if they are the same."""
    line = 1
    for told, written in zip(text, form):
        if told != written:
            return line
        if told == LINE_END:
            line += 1
    return 0 if len(text) == len(form) else line
