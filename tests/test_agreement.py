"""What is told of the document held agrees, whatever calls brought it about."""

import unittest

from tests.helper import (KINDS, TELLING, cut_pieces, cut_table, form, join, numbers, one_form, paragraphs, part,
                          pieces, plain, read, run, same, settle, strict, table, tidy)
from tests.maker import Maker
from tests.slow_desk import document_of, form_of

TEXT = KINDS.replace("text\n", "change 5 by 5 at 9 paint\nchange 6 by 6 at 10 put\ntext\n")
TEXT += (
    "a[+1 #2|b][-2 *3:a1|c][-4]\n"
    "[a1 b2 *5:a3 *3:a4 *5:b0 #1 #9|de][+4 -4|\\[][+1]\n"
    "[-2|f]g[+4 -2]\n"
    "\n"
    "[*3:d9|h][*5:c1 #7]\n"
)
LAST_CALLS = (tidy(), settle(1), settle(2), part(0, 4), part(1, 4), part(3, 5), part(0, 5))


class AgreementTest(unittest.TestCase):
    def assert_agreement(self, calls):
        """The pieces and the table told make up all that the other calls tell."""
        given = run(*calls, form(), pieces(), table(), paragraphs(), plain(0), plain(1), plain(2))[len(calls):]
        row = cut_pieces(given[1])
        rows = cut_table(given[2])
        text = "".join(map(chr, given[0][1:]))
        told = [(sign, tuple(dress)) for sign, *dress in row]
        self.assertEqual(given[0][0], len(text), calls)
        self.assertEqual(text, form_of(rows, told), calls)
        self.assertEqual(document_of(numbers(text)), ([(by, str(at), kind) for by, at, kind in rows], told), calls)
        lengths = [line.count(" ") for line in "".join("\n" if one[0] == 10 else " " for one in row).splitlines()]
        self.assertEqual(given[3], [len(lengths)] + [length + 1 for length in lengths], calls)
        views = (row, [one for one in row if one[3] == ()], [one for one in row if one[2] == ()])
        for signs, view in zip(given[4:], views, strict=True):
            self.assertEqual(signs, [len(view)] + [one[0] for one in view], calls)
        self.assert_told_again(calls, text, given)

    def assert_told_again(self, calls, text, given):
        """Same and strict know the document held by its one form, and a new object holds the same by it."""
        again = [form(), pieces(), table(), paragraphs(), plain(0), plain(1), plain(2)]
        self.assertEqual(run(*calls, same(text), strict(text), same(text), *again)[len(calls):],
                         [[1], [0, 0], [1]] + given, calls)
        self.assertEqual(run(strict(text), *again), [[0, 0]] + given, calls)
        self.assertEqual(run(*calls, same(text + "x\n"), strict(text + "[]\n"), *again)[len(calls):],
                         [[0], [text.count("\n") + 1, 8]] + given, calls)

    def test_behind_each_call(self):
        self.assert_agreement([read(TEXT)])
        for call in LAST_CALLS:
            self.assert_agreement([read(TEXT), call])

    def test_behind_two_and_three_calls(self):
        for first in LAST_CALLS:
            for second in (*LAST_CALLS, part(0, 1), join(TEXT)):
                self.assert_agreement([read(TEXT), first, second])
                self.assert_agreement([read(TEXT), join(TEXT), second, first, tidy()])

    def test_behind_calls_from_seeds(self):
        for seed in range(1000, 1150):
            calls = Maker(seed).calls()
            self.assert_agreement(calls + [LAST_CALLS[seed % len(LAST_CALLS)]])

    def test_join_behind_tidy_raises_by_the_new_length(self):
        for seed in range(2000, 2100):
            calls = Maker(seed).calls() + [tidy()]
            told = run(*calls, table(), pieces(), join(TEXT), table(), pieces())[len(calls):]
            rows = cut_table(told[0])
            own = run(read(TEXT), table(), pieces())[1:]
            self.assertEqual(cut_table(told[3]), rows + cut_table(own[0]))
            by = len(rows)
            raised = [(sign, look, tuple(n + by for n in put), tuple(n + by for n in cut),
                       tuple((n + by, place, value) for n, place, value in pending), tags)
                      for sign, look, put, cut, pending, tags in cut_pieces(own[1])]
            self.assertEqual(cut_pieces(told[4]), cut_pieces(told[1]) + raised)

    def test_calls_that_tell_let_the_document_be(self):
        first = run(read(TEXT), *TELLING)[1:]
        self.assertEqual(run(read(TEXT), *TELLING, *TELLING, *TELLING[::-1], same(TEXT))[1:],
                         first + first + first[::-1] + [[1]])

    def test_refused_calls_let_the_document_be(self):
        for before in ([], [read(TEXT)], [read(TEXT), settle(1)], [read(TEXT), tidy()], [read(TEXT), part(1, 4)]):
            first = run(*before, *TELLING)[len(before):]
            refused = [settle(0), settle(3), settle(-10 ** 18), settle(10 ** 18), plain(3), plain(-1), plain(10 ** 18),
                       plain(-10 ** 18), part(0, 0), part(0, 99), read(TEXT[:-1]), strict(TEXT + "[]\n"), join("x\n")]
            for call in refused:
                self.assertEqual(run(*before, call, *TELLING)[len(before) + 1:], first, call)
            self.assertEqual(run(*before, *refused, *TELLING)[len(before) + len(refused):], first)

    def test_settled_documents_have_nothing_tracked(self):
        for w in (1, 2):
            told = cut_pieces(run(read(TEXT), settle(w), pieces())[2])
            self.assertEqual({one[2:5] for one in told}, {((), (), ())})
            self.assertEqual(one_form(read(TEXT), settle(w), tidy()).splitlines()[:2], ["tracked 1", "text"])
