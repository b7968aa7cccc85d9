"""The interface: a list of calls on one new object, and their answers."""

from trackedtextdesk.desk import Desk

READ = 0
STRICT = 1
FORM = 2
SAME = 3
JOIN = 4
PART = 5
TIDY = 6
SETTLE = 7
PLAIN = 8
PIECES = 9
TABLE = 10
PARAGRAPHS = 11


class UnknownCall(ValueError):
    """A call that the program doesn't have."""


def answers(calls):
    desk = Desk()
    given = []
    at = 0
    while at < len(calls):
        start = at + words_before(calls[at])
        behind = behind_call(calls, at)
        answer = answer_of(desk, calls[at], calls[start:behind])
        given.append(len(answer))
        given.extend(answer)
        at = behind
    return given


def takes_text(call):
    return call in (READ, STRICT, SAME, JOIN)


def words_before(call):
    """How many numbers stand before those that the call is about: its own, and a text's length."""
    return 2 if takes_text(call) else 1


def behind_call(calls, at):
    """The place behind the call that begins at a place."""
    if takes_text(calls[at]):
        return at + 2 + calls[at + 1]
    if calls[at] == PART:
        return at + 3
    if calls[at] in (SETTLE, PLAIN):
        return at + 2
    return at + 1


def answer_of(desk, call, numbers):
    if call == READ:
        return desk.read(numbers)
    if call == STRICT:
        return desk.strict(numbers)
    if call == FORM:
        return desk.form()
    if call == SAME:
        return desk.same(numbers)
    if call == JOIN:
        return desk.join(numbers)
    if call == PART:
        return desk.part(numbers[0], numbers[1])
    if call == TIDY:
        return desk.tidy()
    if call == SETTLE:
        return desk.settle(numbers[0])
    if call == PLAIN:
        return desk.plain(numbers[0])
    if call == PIECES:
        return desk.pieces()
    if call == TABLE:
        return desk.changes()
    if call == PARAGRAPHS:
        return desk.paragraphs()
    raise UnknownCall(f"no call has the number {call}")
