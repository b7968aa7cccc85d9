"""Promise 5: join, a document behind the one held."""

from tests.helper import EXAMPLE, KINDS, NEW, OTHER_EXAMPLE, DeskTest, form, join, numbers, one_form, read, run, same

TABLE = KINDS[len("tracked 1\n"):-len("text\n")]
RAISED = "change 5 by 1 at 5 put\nchange 6 by 2 at 6 cut\nchange 7 by 3 at 7 paint\nchange 8 by 4 at 8 move\n"


class JoinTest(DeskTest):
    def test_behind_a_new_object(self):
        self.assertEqual(run(join(EXAMPLE)), [[0, 0]])
        self.assertEqual(one_form(join(EXAMPLE)), EXAMPLE.replace("text\n", "text\n\n"))

    def test_numbers_of_changes_are_raised(self):
        line = "[a1 +1 +4 -2 -4 *3:a1 *3:d2 #1 #5|xy]z[+4 -4]\n[b4 *3:c3 #4]\n"
        raised = "[a1 +5 +8 -6 -8 *7:a1 *7:d2 #1 #5|xy]z[+8 -8]\n[b4 *7:c3 #4]\n"
        self.assertEqual(one_form(read(KINDS + line), join(KINDS + line)),
                         "tracked 1\n" + TABLE + RAISED + "text\n" + line + raised)

    def test_neighbours_raised_apart(self):
        line = "[+1|a][+4|b]c[-2|d][+1|e]\n"
        raised = "[+5|a][+8|b]c[-6|d][+5|e]\n"
        self.assertEqual(one_form(read(KINDS + "\n"), join(KINDS + line)),
                         "tracked 1\n" + TABLE + RAISED + "text\n\n" + raised)

    def test_nothing_is_raised_behind_an_empty_table(self):
        self.assertEqual(one_form(join(KINDS + "[+1 -2 *3:a1|a]\n")), KINDS + "\n[+1 -2 *3:a1|a]\n")

    def test_document_without_changes(self):
        self.assertEqual(one_form(read(EXAMPLE), join("tracked 1\ntext\n[#3|b]\n\n")), EXAMPLE + "[#3|b]\n\n")

    def test_table_counts_though_no_piece_bears_it(self):
        self.assertEqual(one_form(read(KINDS + "\n"), join("tracked 1\nchange 1 by 9 at 0 put\ntext\n[+1|a]\n")),
                         "tracked 1\n" + TABLE + "change 5 by 9 at 0 put\ntext\n\n[+5|a]\n")

    def test_several_in_a_row(self):
        one = "tracked 1\nchange 1 by 3 at 9 move\ntext\n[+1 -1|a]\n"
        calls = [join(one) for number in range(12)]
        table = "".join(f"change {number} by 3 at 9 move\n" for number in range(1, 13))
        lines = "".join(f"[+{number} -{number}|a]\n" for number in range(1, 13))
        self.assertEqual(run(*calls), [[0, 0]] * 12)
        self.assertEqual(one_form(*calls), "tracked 1\n" + table + "text\n\n" + lines)

    def test_text_need_not_be_the_one_form(self):
        self.assertEqual(one_form(read(NEW), join(OTHER_EXAMPLE)), one_form(read(NEW), join(EXAMPLE)))

    def test_fault_changes_nothing(self):
        for text, line, reason in (("", 1, 7), (EXAMPLE[:-1], 5, 1), (KINDS + "a\n]\n", 8, 2),
                                   (KINDS + "[x|a]\n", 7, 3), (KINDS + "[+5|a]\n", 7, 4), (KINDS + "[+2|a]\n", 7, 5),
                                   (KINDS + "[+1]\n", 7, 6)):
            answers = run(read(EXAMPLE), join(text), same(EXAMPLE), form())
            self.assertEqual(answers, [[0, 0], [line, reason], [1], [len(EXAMPLE)] + numbers(EXAMPLE)])

    def test_numbers_are_those_of_the_texts_own_table(self):
        self.assertEqual(run(read(KINDS + "\n"), join("tracked 1\ntext\n[+1|a]\n")), [[0, 0], [3, 4]])
