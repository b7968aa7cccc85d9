"""Long rows of calls, answered by the program and by a second, slow reading of the document."""

import unittest

from tests.helper import TELLING, run
from tests.maker import Maker
from tests.slow_desk import SlowDesk, paragraphs_of


def sort_of_answer(call, answer):
    if call[0] in (0, 1, 4):
        return call[0], answer[-1]
    if call[0] in (7, 8):
        return call[0], call[1] if call[1] in (0, 1, 2) else None, min(answer[0], 1)
    return call[0], min(answer[0], 1)


def has_two_looks_of_one_property(piece):
    properties = [place for change, place, value in piece[1][3]]
    return len(set(properties)) < len(properties)


class ReferenceTest(unittest.TestCase):
    def setUp(self):
        self.seen = set()

    def expected(self, calls):
        """What the slow reading answers; it also takes down what the calls bring about."""
        slow = SlowDesk()
        answers = []
        for call in calls:
            pieces = slow.pieces
            answers.append(slow.answer(call))
            self.seen.add(sort_of_answer(call, answers[-1]))
            if call in ([7, 1], [7, 2]):
                if any(has_two_looks_of_one_property(piece) for piece in pieces):
                    self.seen.add((call[1], "looks"))
                if len(paragraphs_of(slow.pieces)) < len(paragraphs_of(pieces)):
                    self.seen.add((call[1], "ends"))
        return answers

    def test_calls_from_seeds(self):
        for seed in range(500):
            calls = [one for call in Maker(seed).calls() for one in (call, *TELLING)]
            for call, told, right in zip(calls, run(*calls), self.expected(calls), strict=True):
                self.assertEqual(told, right, (seed, call))
        # The seeds are worth something only if they bring about every sort of answer.
        wanted = [(call, reason) for call in (0, 1, 4) for reason in range(8)] + [(1, 8)]
        wanted += [(3, -1), (3, 0), (3, 1), (5, -3), (5, -1), (5, 0), (5, 1), (6, 0), (6, 1), (10, 0), (10, 1)]
        wanted += [(7, 0, -2), (7, None, -2), (7, 1, 0), (7, 1, 1), (7, 2, 0), (7, 2, 1), (8, None, -2)]
        wanted += [(w, what) for w in (1, 2) for what in ("looks", "ends")]
        self.assertEqual([key for key in wanted if key not in self.seen], [])
