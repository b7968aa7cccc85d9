"""What the tests share: calls as lists of numbers, and answers cut apart."""

import unittest

from trackedtextdesk.written import answers

EXAMPLE = (
    "tracked 1\n"
    "change 1 by 2 at 40 cut\n"
    "change 2 by 2 at 41 put\n"
    "text\n"
    "a[-1|b][+2|X]c[#7]\n"
)
OTHER_EXAMPLE = EXAMPLE.replace("a[-1|b][+2|X]c[#7]", "[|a][-1|][-1|b][+2|X]\\c[#7 a0]")

# One change of each kind, so that change k is of the kind k.
KINDS = (
    "tracked 1\n"
    "change 1 by 1 at 5 put\n"
    "change 2 by 2 at 6 cut\n"
    "change 3 by 3 at 7 paint\n"
    "change 4 by 4 at 8 move\n"
    "text\n"
)
NEW = "tracked 1\ntext\n\n"


def numbers(text):
    return [ord(sign) for sign in text] if isinstance(text, str) else list(text)


def with_text(call, text):
    told = numbers(text)
    return [call, len(told)] + told


def read(text):
    return with_text(0, text)


def strict(text):
    return with_text(1, text)


def form():
    return [2]


def same(text):
    return with_text(3, text)


def join(text):
    return with_text(4, text)


def part(i, j):
    return [5, i, j]


def cut_answers(given):
    cut = []
    at = 0
    while at < len(given):
        behind = at + 1 + given[at]
        assert behind <= len(given), "an answer is shorter than it says"
        cut.append(given[at + 1:behind])
        at = behind
    return cut


def run(*calls):
    """The answer of each call, on one object."""
    return cut_answers(answers([number for call in calls for number in call]))


def one_form(*calls):
    """The one form of the document held behind these calls, as a text."""
    told = run(*calls, form())[-1]
    assert told[0] == len(told) - 1, "the form is not as long as it says"
    return "".join(chr(number) for number in told[1:])


class DeskTest(unittest.TestCase):
    def assert_told(self, text, written):
        """Readers take the text, and the one form of what it tells is this."""
        self.assertEqual(run(read(text)), [[0, 0]], text)
        self.assertEqual(one_form(read(text)), written)

    def assert_fault(self, text, line, reason):
        """The text has this fault for every call that reads one, and no document changes by it."""
        self.assertEqual(
            run(read(EXAMPLE), read(text), strict(text), join(text), same(text), same(EXAMPLE)),
            [[0, 0], [line, reason], [line, reason], [line, reason], [-1], [1]],
            text,
        )
        self.assertEqual(one_form(read(text)), NEW)
