"""The interface, and the edges that the document names."""

import unittest

from tests.helper import (EXAMPLE, KINDS, NEW, TELLING, DeskTest, cut_answers, form, join, numbers, one_form,
                          paragraphs, part, pieces, plain, read, run, same, settle, strict, table, tidy)
from trackedtextdesk.written import answers

MOST = 17000


def flat(*calls):
    return [number for call in calls for number in call]


class InterfaceTest(unittest.TestCase):
    def test_answers_stand_behind_their_counts(self):
        text = "tracked 1\ntext\na\n"
        given = answers(flat(read(text), form(), same("x"), same(text), part(0, 1), part(0, 2), join(""), strict(text)))
        told = [2, 0, 0] + [len(text) + 1, len(text)] + numbers(text) + [1, -1, 1, 1, 1, 0, 1, -1, 2, 1, 7, 2, 0, 0]
        self.assertEqual(given, told)

    def test_answers_of_the_calls_six_to_eleven(self):
        given = answers([6, 7, 1, 7, 0, 8, 0, 8, 3, 9, 10, 11])
        told = [1, 0, 1, 0, 1, -2, 2, 1, 10, 1, -2, 10, 1, 10, 0, 0, 0, 0, 0, 0, 0, 0, 1, 0, 2, 1, 1]
        self.assertEqual(given, told)

    def test_numbers_handed_in_with_a_call_are_no_calls(self):
        self.assertEqual(answers([7, 7, 8, 8, 7, 6, 8, 11, 5, 9, 10, 10]), [1, -2] * 4 + [1, -1, 1, 0])

    def test_answers_are_whole_numbers_in_a_list(self):
        given = answers(flat(read(EXAMPLE), same(EXAMPLE), same(NEW), same(""), form(), part(0, 1), part(2, 1),
                             *TELLING, tidy(), settle(0), settle(1), plain(9), *TELLING))
        self.assertIs(type(given), list)
        self.assertEqual({type(number) for number in given}, {int})

    def test_what_is_handed_in_stays_as_it_was(self):
        joined = KINDS + "[+1|a]\nb\n"
        calls = flat(read(EXAMPLE), strict(EXAMPLE), form(), join(joined), part(0, 2), same(EXAMPLE), form(), *TELLING,
                     tidy(), *TELLING, settle(1), join(joined), settle(2), settle(3), plain(-1), *TELLING)
        kept = list(calls)
        first = answers(calls)
        self.assertEqual(calls, kept)
        self.assertEqual(answers(calls), first)
        self.assertEqual(calls, kept)

    def test_an_answer_given_is_not_kept(self):
        first = answers([2])
        copy = list(first)
        first.append(1)
        first[3] = 0
        self.assertEqual(answers([2]), copy)

    def test_object_is_new_each_time(self):
        answers(read(EXAMPLE))
        self.assertEqual(answers([2]), [17, 16] + numbers(NEW))

    def test_texts_with_numbers_of_calls_in_them(self):
        for number in range(-1, 13):
            self.assertEqual(run(read([number] * 3), form()), [[1, 2 if number == 10 else 1], [16] + numbers(NEW)])


    def test_an_answer_of_each_telling_call_is_not_kept(self):
        for call in TELLING:
            calls = flat(read(EXAMPLE), call)
            first = answers(calls)
            copy = list(first)
            first[4] = 99
            first.append(1)
            self.assertEqual(answers(calls), copy)


class EdgeTest(DeskTest):
    def test_empty_text(self):
        self.assertEqual(run(read([]), strict([]), same([]), join([])), [[1, 7], [1, 7], [-1], [1, 7]])

    def test_last_line_that_is_not_ended(self):
        self.assert_fault(EXAMPLE[:-1], 5, 1)
        self.assert_fault(EXAMPLE + " ", 6, 1)

    def test_empty_lines(self):
        self.assert_fault("\n" + EXAMPLE, 1, 2)
        self.assert_fault(EXAMPLE.replace("tracked 1\n", "tracked 1\n\n"), 2, 2)
        self.assert_fault(EXAMPLE.replace("text\n", "\ntext\n"), 4, 2)
        self.assert_told(EXAMPLE.replace("text\n", "text\n\n") + "\n", EXAMPLE.replace("text\n", "text\n\n") + "\n")

    def test_far_numbers_in_a_text(self):
        for number in (-10 ** 18, -10, -1, 10 ** 18, 10 ** 18 - 1, 42 + 2 ** 32, 97 + 256):
            self.assert_fault([number], 1, 1)
            self.assert_fault([number, 10], 1, 1)
            self.assert_fault(numbers(EXAMPLE) + [number, 10], 6, 1)
            self.assert_fault(numbers(KINDS + "[#1|a") + [number] + numbers("]\n"), 7, 1)

    def test_numerals_with_a_zero_ahead(self):
        self.assert_fault(EXAMPLE.replace("at 40", "at 040"), 2, 3)
        self.assert_fault(EXAMPLE.replace("#7", "#07"), 5, 3)
        self.assert_told(EXAMPLE.replace("at 40", "at 0"), EXAMPLE.replace("at 40", "at 0"))


class LongNumeralTest(DeskTest):
    def numerals(self):
        return ["1" + "0" * 18, "9" * 19, "1" * 4300, "7" * 4301, "9" + "0" * 16700 + "1"]

    def test_as_a_time(self):
        for numeral in self.numerals():
            text = f"tracked 1\nchange 1 by 2 at {numeral} cut\ntext\n[-1|a]\n"
            self.assert_told(text, text)
            self.assertEqual(run(strict(text)), [[0, 0]])

    def test_as_a_time_in_a_joined_text(self):
        numeral = "8" * 16000
        text = f"tracked 1\nchange 1 by 2 at {numeral} cut\ntext\n[-1|a]\n"
        held = EXAMPLE.replace("text\n", f"change 3 by 2 at {numeral} cut\ntext\n") + "[-3|a]\n"
        self.assertEqual(one_form(read(EXAMPLE), join(text)), held)

    def test_times_that_differ_in_the_last_digit(self):
        texts = [f"tracked 1\nchange 1 by 2 at {'8' * 8000}{last} cut\ntext\n\n" for last in (1, 2)]
        self.assertEqual(run(read(texts[0]), same(texts[0])), [[0, 0], [1]])
        self.assertEqual(run(read(texts[0]), same(texts[1])), [[0, 0], [0]])

    def test_outside_every_other_range(self):
        for numeral in self.numerals() + ["9" * 18, "1" + "0" * 17]:
            for text, line in ((f"tracked 1\nchange 1 by {numeral} at 1 cut\ntext\n\n", 2),
                               (f"tracked 1\nchange {numeral} by 1 at 1 cut\ntext\n\n", 2),
                               (KINDS + f"[#{numeral}]\n", 7), (KINDS + f"[a{numeral}|x]\n", 7),
                               (KINDS + f"[+{numeral}|x]\n", 7), (KINDS + f"[-{numeral}|x]\n", 7),
                               (KINDS + f"[*{numeral}:a1|x]\n", 7), (KINDS + f"[*3:a{numeral}|x]\n", 7)):
                self.assertEqual(run(read(text)), [[line, 4]])

    def test_long_row_of_digits_that_is_no_numeral(self):
        digits = "0" + "1" * 16000
        self.assertEqual(run(read(f"tracked 1\nchange 1 by 2 at {digits} cut\ntext\n\n")), [[2, 3]])
        self.assertEqual(run(read(KINDS + f"[#{digits}]\n")), [[7, 3]])


class LongListTest(DeskTest):
    def test_line_of_400_calls(self):
        one = "tracked 1\nchange 1 by 1 at 1 put\ntext\n[+1|a]\n"
        calls = [join(one) for number in range(200)] + [part(0, 200 - number) for number in range(199)] + [form()]
        self.assertEqual(len(calls), 400)
        given = run(*calls)
        table = "".join(f"change {number} by 1 at 1 put\n" for number in range(1, 201))
        kept = f"tracked 1\n{table}text\n\n[+1|a]\n"
        self.assertEqual(given[:200], [[0, 0]] * 200)
        self.assertEqual(given[200:399], [[2]] * 199)
        self.assertEqual(given[399], [len(kept)] + numbers(kept))

    def test_400_forms_of_a_long_document(self):
        text = "tracked 1\ntext\n" + "ab\\[\n" * 3290
        calls = flat(read(text), *[form() for number in range(399)])
        self.assertLess(len(calls), MOST)
        given = answers(calls)
        self.assertEqual(given[:5], [2, 0, 0, len(text) + 1, len(text)])
        self.assertEqual(len(given), 3 + 399 * (len(text) + 2))
        self.assertEqual(given[-len(text):], numbers(text))

    def test_one_long_text_of_signs(self):
        text = "tracked 1\ntext\n" + "x" * 16880 + "\n"
        self.assertEqual(run(strict(text), form())[1], [len(text)] + numbers(text))

    def test_one_long_text_of_paragraphs(self):
        text = "tracked 1\ntext\n" + "\n" * 16880
        self.assertEqual(run(read(text), part(0, 16881), part(1, 16880), part(0, 16879)), [[0, 0], [-1], [1], [0]])

    def test_one_long_text_of_brackets(self):
        text = "tracked 1\ntext\n" + "[#1|a][#2|b]" * 1400 + "\n"
        self.assertEqual(run(strict(text), form())[1], [len(text)] + numbers(text))
        self.assertEqual(one_form(read("tracked 1\ntext\n" + "[#1|a]" * 2800 + "\n")),
                         "tracked 1\ntext\n[#1|" + "a" * 2800 + "]\n")

    def test_one_long_text_of_changes(self):
        table = "".join(f"change {number} by 9 at 0 put\n" for number in range(1, 560))
        marks = " ".join(f"+{number}" for number in range(559, 0, -1))
        text = f"tracked 1\n{table}text\n[{marks}|{'y' * 100}]\n"
        self.assertLess(len(text), MOST)
        self.assertEqual(run(strict(text), form())[1], [len(text)] + numbers(text))

    def test_one_long_text_with_a_fault_at_its_end(self):
        text = "tracked 1\ntext\n" + "a\n" * 8440 + "b"
        self.assertEqual(run(read(text)), [[8443, 1]])

    def test_long_texts_without_their_brackets(self):
        self.assertEqual(run(read("tracked 1\ntext\n" + "[" * 16800 + "\n")), [[3, 2]])
        self.assertEqual(run(read("tracked 1\ntext\n" + "\\" * 16801 + "\n")), [[3, 2]])
        self.assertEqual(run(read("tracked 1\ntext\n[" + " " * 16800 + "]\n")), [[3, 3]])


class AllCallsTest(DeskTest):
    """All twelve calls in turn, in lists as long as they may be."""

    def assert_answers(self, calls, expected):
        flat_calls = flat(*calls)
        self.assertLessEqual(len(flat_calls), MOST)
        self.assertLessEqual(len(calls), 400)
        kept = list(flat_calls)
        self.assertEqual(cut_answers(answers(flat_calls)), expected)
        self.assertEqual(flat_calls, kept)

    def test_400_calls_in_turn(self):
        text = "tracked 1\nchange 1 by 1 at 1 cut\nchange 2 by 2 at 2 paint\ntext\na[-1|b][-1]\n[*2:a1|c]\n"
        settled = "tracked 1\ntext\na[a1|c]\n"
        turn = [read(text), join(text), tidy(), plain(1), settle(1), table(), part(1, 2), pieces(), paragraphs(),
                tidy(), strict(settled + "[]\n"), same(settled), form(), settle(5), plain(5), part(0, 0)]
        told = [[0, 0], [0, 0], [0], [6] + numbers("ac\nac\n"), [4], [4, 1, 1, 2, 2, 2, 3, 1, 1, 2, 2, 2, 3], [3],
                [3, 97, 0, 0, 0, 0, 0, 0, 0, 0, 99, 1, 0, 0, 0, 0, 0, 0, 0, 10, 0, 0, 0, 0, 0, 0, 0, 0], [1, 3], [4],
                [4, 8], [1], [len(settled)] + numbers(settled), [-2], [-2], [-1]]
        self.assert_answers(turn * 25, told * 25)

    def test_plain_taken_and_refused_in_turn_on_a_long_document(self):
        text = KINDS + "[+1|a][-2|b]c[*3:a1|d]\n" * 680
        turn = [plain(0), plain(3), plain(1), plain(-1), plain(2), plain(10 ** 18)]
        told = []
        for signs in ("abcd\n", "acd\n", "bcd\n"):
            told += [[len(signs) * 680] + numbers(signs) * 680, [-2]]
        self.assert_answers([read(text)] + turn * 66, [[0, 0]] + told * 66)

    def test_list_of_17000_numbers(self):
        head = "tracked 1\nchange 1 by 1 at 1 cut\ntext\n"
        calls = [tidy(), settle(1), settle(2), table(), paragraphs()]
        length = MOST - 2 - len(head) - len("[-1|]a\n") - len(flat(*calls))
        text = head + "[-1|" + "x" * length + "]a\n"
        self.assertEqual(len(flat(read(text), *calls)), MOST)
        self.assert_answers([read(text), *calls], [[0, 0], [0], [length], [0], [1, 1, 1, 2], [1, 2]])

    def test_long_row_of_paragraphs_that_run_together(self):
        head = "tracked 1\nchange 1 by 1 at 1 move\ntext\n"
        text = head + "a[+1]\nb[-1]\n" * 1390 + "\n"
        for w, kept in ((1, "a\nb"), (2, "ab\n")):
            row = kept * 1390 + "\n"
            lengths = [len(line) + 1 for line in row.split("\n")[:-1]]
            self.assert_answers([read(text), settle(w), plain(0), paragraphs(), tidy(), form()],
                                [[0, 0], [1390], [len(row)] + numbers(row), [len(lengths)] + lengths, [1],
                                 [15 + len(row)] + numbers("tracked 1\ntext\n" + row)])

    def test_pieces_of_a_long_document_300_times(self):
        text = "tracked 1\ntext\n" + "[#5|ab]\n" * 900
        one = [97, 0, 0, 0, 0, 0, 0, 0, 1, 5, 98, 0, 0, 0, 0, 0, 0, 0, 1, 5, 10] + [0] * 8
        calls = [read(text), tidy()] + [pieces()] * 300
        self.assert_answers(calls, [[0, 0], [0]] + [[2700] + one * 900] * 300)

    def test_400_calls_on_a_long_document(self):
        text = KINDS + "[+1|ab][-2|c][*3:b4 #6|d]\n" * 600
        calls = [read(text)] + [tidy(), settle(7), part(0, 600), table()] * 99 + [settle(2), tidy(), paragraphs()]
        rows = [3, 1, 5, 1, 2, 6, 2, 3, 7, 3]
        turn = [[0], [-2], [0], rows]
        self.assert_answers(calls, [[0, 0], [1], *turn[1:], *turn * 98, [1200], [3], [600] + [3] * 600])

    def test_long_dresses_that_are_alike(self):
        tags = " ".join(f"#{tag}" for tag in range(1, 1000))
        head = "tracked 1\nchange 1 by 1 at 1 put\ntext\n"
        text = head + f"[{tags}|a][+1 {tags}|{'b' * 6500}]\n"
        kept = f"tracked 1\ntext\n[{tags}|a{'b' * 6500}]\n"
        calls = [read(text), settle(1), tidy()] + [settle(1), tidy()] * 30 + [form()] * 30
        self.assert_answers(calls, [[0, 0], [0], [1]] + [[0], [0]] * 30 + [[len(kept)] + numbers(kept)] * 30)
