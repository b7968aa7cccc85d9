"""The interface, and the edges that the document names."""

import unittest

from tests.helper import EXAMPLE, KINDS, NEW, DeskTest, form, join, numbers, one_form, part, read, run, same, strict
from trackedtextdesk.written import answers

MOST = 17000


def flat(*calls):
    return [number for call in calls for number in call]


class InterfaceTest(unittest.TestCase):
    def test_answers_stand_behind_their_counts(self):
        text = "tracked 1\ntext\na\n"
        given = answers(flat(read(text), form(), same("x"), same(text), part(0, 1), part(0, 2), join(""), strict(text)))
        told = [2, 0, 0] + [len(text) + 1, len(text)] + numbers(text) + [1, -1, 1, 1, 1, 0, 1, -1, 2, 1, 7, 2, 0, 0]
        self.assertEqual(given, told)

    def test_answers_are_whole_numbers_in_a_list(self):
        given = answers(flat(read(EXAMPLE), same(EXAMPLE), same(NEW), same(""), form(), part(0, 1), part(2, 1)))
        self.assertIs(type(given), list)
        self.assertEqual({type(number) for number in given}, {int})

    def test_what_is_handed_in_stays_as_it_was(self):
        joined = KINDS + "[+1|a]\nb\n"
        calls = flat(read(EXAMPLE), strict(EXAMPLE), form(), join(joined), part(0, 2), same(EXAMPLE), form())
        kept = list(calls)
        first = answers(calls)
        self.assertEqual(calls, kept)
        self.assertEqual(answers(calls), first)
        self.assertEqual(calls, kept)

    def test_an_answer_given_is_not_kept(self):
        first = answers([2])
        copy = list(first)
        first.append(1)
        first[3] = 0
        self.assertEqual(answers([2]), copy)

    def test_object_is_new_each_time(self):
        answers(read(EXAMPLE))
        self.assertEqual(answers([2]), [17, 16] + numbers(NEW))

    def test_texts_with_numbers_of_calls_in_them(self):
        for number in range(-1, 13):
            self.assertEqual(run(read([number] * 3), form()), [[1, 2 if number == 10 else 1], [16] + numbers(NEW)])


class EdgeTest(DeskTest):
    def test_empty_text(self):
        self.assertEqual(run(read([]), strict([]), same([]), join([])), [[1, 7], [1, 7], [-1], [1, 7]])

    def test_last_line_that_is_not_ended(self):
        self.assert_fault(EXAMPLE[:-1], 5, 1)
        self.assert_fault(EXAMPLE + " ", 6, 1)

    def test_empty_lines(self):
        self.assert_fault("\n" + EXAMPLE, 1, 2)
        self.assert_fault(EXAMPLE.replace("tracked 1\n", "tracked 1\n\n"), 2, 2)
        self.assert_fault(EXAMPLE.replace("text\n", "\ntext\n"), 4, 2)
        self.assert_told(EXAMPLE.replace("text\n", "text\n\n") + "\n", EXAMPLE.replace("text\n", "text\n\n") + "\n")

    def test_far_numbers_in_a_text(self):
        for number in (-10 ** 18, -10, -1, 10 ** 18, 10 ** 18 - 1, 42 + 2 ** 32, 97 + 256):
            self.assert_fault([number], 1, 1)
            self.assert_fault([number, 10], 1, 1)
            self.assert_fault(numbers(EXAMPLE) + [number, 10], 6, 1)
            self.assert_fault(numbers(KINDS + "[#1|a") + [number] + numbers("]\n"), 7, 1)

    def test_numerals_with_a_zero_ahead(self):
        self.assert_fault(EXAMPLE.replace("at 40", "at 040"), 2, 3)
        self.assert_fault(EXAMPLE.replace("#7", "#07"), 5, 3)
        self.assert_told(EXAMPLE.replace("at 40", "at 0"), EXAMPLE.replace("at 40", "at 0"))


class LongNumeralTest(DeskTest):
    def numerals(self):
        return ["1" + "0" * 18, "9" * 19, "1" * 4300, "7" * 4301, "9" + "0" * 16700 + "1"]

    def test_as_a_time(self):
        for numeral in self.numerals():
            text = f"tracked 1\nchange 1 by 2 at {numeral} cut\ntext\n[-1|a]\n"
            self.assert_told(text, text)
            self.assertEqual(run(strict(text)), [[0, 0]])

    def test_as_a_time_in_a_joined_text(self):
        numeral = "8" * 16000
        text = f"tracked 1\nchange 1 by 2 at {numeral} cut\ntext\n[-1|a]\n"
        held = EXAMPLE.replace("text\n", f"change 3 by 2 at {numeral} cut\ntext\n") + "[-3|a]\n"
        self.assertEqual(one_form(read(EXAMPLE), join(text)), held)

    def test_times_that_differ_in_the_last_digit(self):
        texts = [f"tracked 1\nchange 1 by 2 at {'8' * 8000}{last} cut\ntext\n\n" for last in (1, 2)]
        self.assertEqual(run(read(texts[0]), same(texts[0])), [[0, 0], [1]])
        self.assertEqual(run(read(texts[0]), same(texts[1])), [[0, 0], [0]])

    def test_outside_every_other_range(self):
        for numeral in self.numerals() + ["9" * 18, "1" + "0" * 17]:
            for text, line in ((f"tracked 1\nchange 1 by {numeral} at 1 cut\ntext\n\n", 2),
                               (f"tracked 1\nchange {numeral} by 1 at 1 cut\ntext\n\n", 2),
                               (KINDS + f"[#{numeral}]\n", 7), (KINDS + f"[a{numeral}|x]\n", 7),
                               (KINDS + f"[+{numeral}|x]\n", 7), (KINDS + f"[-{numeral}|x]\n", 7),
                               (KINDS + f"[*{numeral}:a1|x]\n", 7), (KINDS + f"[*3:a{numeral}|x]\n", 7)):
                self.assertEqual(run(read(text)), [[line, 4]])

    def test_long_row_of_digits_that_is_no_numeral(self):
        digits = "0" + "1" * 16000
        self.assertEqual(run(read(f"tracked 1\nchange 1 by 2 at {digits} cut\ntext\n\n")), [[2, 3]])
        self.assertEqual(run(read(KINDS + f"[#{digits}]\n")), [[7, 3]])


class LongListTest(DeskTest):
    def test_line_of_400_calls(self):
        one = "tracked 1\nchange 1 by 1 at 1 put\ntext\n[+1|a]\n"
        calls = [join(one) for number in range(200)] + [part(0, 200 - number) for number in range(199)] + [form()]
        self.assertEqual(len(calls), 400)
        given = run(*calls)
        table = "".join(f"change {number} by 1 at 1 put\n" for number in range(1, 201))
        kept = f"tracked 1\n{table}text\n\n[+1|a]\n"
        self.assertEqual(given[:200], [[0, 0]] * 200)
        self.assertEqual(given[200:399], [[2]] * 199)
        self.assertEqual(given[399], [len(kept)] + numbers(kept))

    def test_400_forms_of_a_long_document(self):
        text = "tracked 1\ntext\n" + "ab\\[\n" * 3290
        calls = flat(read(text), *[form() for number in range(399)])
        self.assertLess(len(calls), MOST)
        given = answers(calls)
        self.assertEqual(given[:5], [2, 0, 0, len(text) + 1, len(text)])
        self.assertEqual(len(given), 3 + 399 * (len(text) + 2))
        self.assertEqual(given[-len(text):], numbers(text))

    def test_one_long_text_of_signs(self):
        text = "tracked 1\ntext\n" + "x" * 16880 + "\n"
        self.assertEqual(run(strict(text), form())[1], [len(text)] + numbers(text))

    def test_one_long_text_of_paragraphs(self):
        text = "tracked 1\ntext\n" + "\n" * 16880
        self.assertEqual(run(read(text), part(0, 16881), part(1, 16880), part(0, 16879)), [[0, 0], [-1], [1], [0]])

    def test_one_long_text_of_brackets(self):
        text = "tracked 1\ntext\n" + "[#1|a][#2|b]" * 1400 + "\n"
        self.assertEqual(run(strict(text), form())[1], [len(text)] + numbers(text))
        self.assertEqual(one_form(read("tracked 1\ntext\n" + "[#1|a]" * 2800 + "\n")),
                         "tracked 1\ntext\n[#1|" + "a" * 2800 + "]\n")

    def test_one_long_text_of_changes(self):
        table = "".join(f"change {number} by 9 at 0 put\n" for number in range(1, 560))
        marks = " ".join(f"+{number}" for number in range(559, 0, -1))
        text = f"tracked 1\n{table}text\n[{marks}|{'y' * 100}]\n"
        self.assertLess(len(text), MOST)
        self.assertEqual(run(strict(text), form())[1], [len(text)] + numbers(text))

    def test_one_long_text_with_a_fault_at_its_end(self):
        text = "tracked 1\ntext\n" + "a\n" * 8440 + "b"
        self.assertEqual(run(read(text)), [[8443, 1]])

    def test_long_texts_without_their_brackets(self):
        self.assertEqual(run(read("tracked 1\ntext\n" + "[" * 16800 + "\n")), [[3, 2]])
        self.assertEqual(run(read("tracked 1\ntext\n" + "\\" * 16801 + "\n")), [[3, 2]])
        self.assertEqual(run(read("tracked 1\ntext\n[" + " " * 16800 + "]\n")), [[3, 3]])
