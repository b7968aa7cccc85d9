"""What the tests share: calls as lists of numbers, and answers cut apart."""

import unittest

from trackedtextdesk.written import answers

EXAMPLE = (
    "tracked 1\n"
    "change 1 by 2 at 40 cut\n"
    "change 2 by 2 at 41 put\n"
    "text\n"
    "a[-1|b][+2|X]c[#7]\n"
)
OTHER_EXAMPLE = EXAMPLE.replace("a[-1|b][+2|X]c[#7]", "[|a][-1|][-1|b][+2|X]\\c[#7 a0]")

# One change of each kind, so that change k is of the kind k.
KINDS = (
    "tracked 1\n"
    "change 1 by 1 at 5 put\n"
    "change 2 by 2 at 6 cut\n"
    "change 3 by 3 at 7 paint\n"
    "change 4 by 4 at 8 move\n"
    "text\n"
)
NEW = "tracked 1\ntext\n\n"


def numbers(text):
    return [ord(sign) for sign in text] if isinstance(text, str) else list(text)


def with_text(call, text):
    told = numbers(text)
    return [call, len(told)] + told


def read(text):
    return with_text(0, text)


def strict(text):
    return with_text(1, text)


def form():
    return [2]


def same(text):
    return with_text(3, text)


def join(text):
    return with_text(4, text)


def part(i, j):
    return [5, i, j]


def tidy():
    return [6]


def settle(w):
    return [7, w]


def plain(w):
    return [8, w]


def pieces():
    return [9]


def table():
    return [10]


def paragraphs():
    return [11]


# The calls that tell of the document held and let it be.
TELLING = (form(), plain(0), plain(1), plain(2), pieces(), table(), paragraphs())

# What is no way of settle or of plain: also far off, and near a way when cut to fewer bits.
NO_WAYS = (-1, -2, -3, 3, 4, 10, 11, 32, 10 ** 18, 10 ** 18 - 1, -10 ** 18, 1 - 10 ** 18, 2 ** 32 + 1, 2 ** 32 + 2)


def cut_answers(given):
    cut = []
    at = 0
    while at < len(given):
        behind = at + 1 + given[at]
        assert behind <= len(given), "an answer is shorter than it says"
        cut.append(given[at + 1:behind])
        at = behind
    return cut


def run(*calls):
    """The answer of each call, on one object."""
    return cut_answers(answers([number for call in calls for number in call]))


def one_form(*calls):
    """The one form of the document held behind these calls, as a text."""
    told = run(*calls, form())[-1]
    assert told[0] == len(told) - 1, "the form is not as long as it says"
    return "".join(chr(number) for number in told[1:])


def cut_pieces(answer):
    """The pieces of an answer of the call pieces: each its sign, look, insertions, deletions, pending looks, tags."""
    cut = []
    at = 1
    for piece in range(answer[0]):
        sign, look = answer[at], tuple(answer[at + 1:at + 5])
        at += 5
        lists = []
        for width in (1, 1, 3, 1):
            behind = at + 1 + answer[at] * width
            told = answer[at + 1:behind]
            lists.append(told if width == 1 else [tuple(told[k:k + width]) for k in range(0, len(told), width)])
            at = behind
        cut.append((sign, look, *[tuple(one) for one in lists]))
    assert at == len(answer), "the pieces are not as many numbers as they say"
    return cut


def cut_table(answer):
    assert len(answer) == 1 + 3 * answer[0], "the table is not as long as it says"
    return [tuple(answer[at:at + 3]) for at in range(1, len(answer), 3)]


class DeskTest(unittest.TestCase):
    def assert_told(self, text, written):
        """Readers take the text, and the one form of what it tells is this."""
        self.assertEqual(run(read(text)), [[0, 0]], text)
        self.assertEqual(one_form(read(text)), written)

    def assert_fault(self, text, line, reason):
        """The text has this fault for every call that reads one, and no document changes by it."""
        self.assertEqual(
            run(read(EXAMPLE), read(text), strict(text), join(text), same(text), same(EXAMPLE)),
            [[0, 0], [line, reason], [line, reason], [line, reason], [-1], [1]],
            text,
        )
        self.assertEqual(one_form(read(text)), NEW)

    def assert_becomes(self, text, call, answer, written):
        """On the document of the text the call answers this, and the one form is this behind it."""
        given = run(read(text), call, form())
        self.assertEqual(given[:2], [[0, 0], answer], text)
        self.assertEqual("".join(map(chr, given[2][1:])), written, text)
