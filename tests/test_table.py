"""Promise 11: table, the changes as numbers."""

from tests.helper import EXAMPLE, KINDS, DeskTest, join, one_form, part, read, run, same, settle, strict, table, tidy
from trackedtextdesk.written import answers


def with_times(*numerals):
    rows = [f"change {k} by {k} at {numeral} put\n" for k, numeral in enumerate(numerals, start=1)]
    return "tracked 1\n" + "".join(rows) + "text\n[+1|a]\n"


class TableTest(DeskTest):
    def test_new_object(self):
        self.assertEqual(run(table()), [[0]])

    def test_example(self):
        self.assertEqual(run(read(EXAMPLE), table(), table(), same(EXAMPLE)),
                         [[0, 0], [2, 2, 40, 2, 2, 41, 1], [2, 2, 40, 2, 2, 41, 1], [1]])

    def test_every_kind(self):
        self.assertEqual(run(read(KINDS + "\n"), table())[1], [4, 1, 5, 1, 2, 6, 2, 3, 7, 3, 4, 8, 4])

    def test_least_and_greatest_author(self):
        text = "tracked 1\nchange 1 by 1 at 0 move\nchange 2 by 99 at 0 paint\ntext\n\n"
        self.assertEqual(run(read(text), table())[1], [2, 1, 0, 4, 99, 0, 3])

    def test_table_without_changes(self):
        self.assertEqual(run(read("tracked 1\ntext\n[a1 #3|b]\n"), table())[1], [0])

    def test_times_about_eighteen_digits(self):
        for digits in range(1, 60):
            for time in (10 ** digits - 1, 10 ** digits, 10 ** digits + 1, 123456789 * 10 ** digits + 987654321):
                self.assertEqual(run(read(with_times(time, 7, time + 1)), table())[1],
                                 [3, 1, time, 1, 2, 7, 1, 3, time + 1, 1])

    def test_behind_the_other_calls(self):
        text = KINDS + "[-2|a]\nb\n"
        given = run(read(text), settle(1), table(), join(text), table(), part(1, 2), table(), tidy(), table())
        rows = [1, 5, 1, 2, 6, 2, 3, 7, 3, 4, 8, 4]
        self.assertEqual(given[1:], [[1], [4] + rows, [0, 0], [8] + rows * 2, [5], [8] + rows * 2, [8], [0]])
        given = run(read(text), join(text), tidy(), table())
        self.assertEqual(given[2:], [[6], [2, 2, 6, 2, 2, 6, 2]])


class LongTimeTest(DeskTest):
    """No numeral is made from or into a number here: Python bounds how long such may be."""

    def long_times(self):
        for count in (4299, 4300, 4301, 9000, 16800):
            yield "9" * count, 10 ** count - 1
            yield "1" + "0" * (count - 1), 10 ** (count - 1)
            yield "7" * count, 7 * (10 ** count - 1) // 9
            yield "5" + "0" * (count - 2) + "3", 5 * 10 ** (count - 1) + 3

    def assert_equal_numbers(self, given, expected):
        # Not assertEqual: it would write the numbers, which are too long for that.
        self.assertEqual(len(given), len(expected))
        self.assertTrue(given == expected, "numbers differ")
        self.assertEqual({type(number) for number in given}, {int})

    def test_a_time_of_many_thousand_digits_is_one_number(self):
        for numeral, time in self.long_times():
            self.assert_equal_numbers(run(read(with_times(numeral)), table())[1], [1, 1, time, 1])

    def test_all_of_an_answer(self):
        text = [ord(sign) for sign in with_times("9" * 16800)]
        self.assert_equal_numbers(answers([0, len(text)] + text + [10]), [2, 0, 0, 4, 1, 1, 10 ** 16800 - 1, 1])

    def test_several_long_times(self):
        text = with_times("9" * 5000, "1" + "0" * 5000, "3", "9" * 5001)
        self.assert_equal_numbers(run(strict(text), table())[1],
                                  [4, 1, 10 ** 5000 - 1, 1, 2, 10 ** 5000, 1, 3, 3, 1, 4, 10 ** 5001 - 1, 1])

    def test_long_times_behind_the_other_calls(self):
        text = with_times("8", "9" * 8000)
        time = 10 ** 8000 - 1
        given = run(read(text), join(text), settle(1), table(), tidy(), table())
        self.assert_equal_numbers(given[3], [4, 1, 8, 1, 2, time, 1, 1, 8, 1, 2, time, 1])
        self.assertEqual(given[4:], [[4], [0]])
        one = f"tracked 1\nchange 1 by 5 at 1 put\nchange 2 by 6 at {'9' * 8000} cut\ntext\n[-2|a]\n"
        self.assert_equal_numbers(run(read(one), tidy(), part(0, 1), table())[3], [1, 6, time, 2])
        self.assertEqual(one_form(read(one), tidy()), f"tracked 1\nchange 1 by 6 at {'9' * 8000} cut\ntext\n[-1|a]\n")

    def test_400_calls_with_a_long_time(self):
        text = with_times("9" * 16000)
        given = run(read(text), *[table() for number in range(399)])
        self.assertEqual(len(given), 400)
        self.assert_equal_numbers(given[-1], [1, 1, 10 ** 16000 - 1, 1])
