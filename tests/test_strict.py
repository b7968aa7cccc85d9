"""Promise 2: strict, which takes the one form and nothing else."""

from tests.helper import EXAMPLE, KINDS, NEW, OTHER_EXAMPLE, DeskTest, form, numbers, one_form, read, run, same, strict

ONE_FORMS = (
    EXAMPLE,
    NEW,
    "tracked 1\ntext\n\n\n\n",
    KINDS + "[a1 b2 c3 d4 +4 +1 -4 -2 *3:d9 *3:a0 #2 #9 #10|x]\n",
    KINDS + "[+1|a][+1 #1|b]c[+4 +1|d][+1 +4|e]\n",
    KINDS + "[#1|\\[\\]\\\\|]\\[\\]\\\\|[#1]\n",
    KINDS + "[+1|a][+1]\n[+1|b]\n",
    KINDS + "a\nb\n[*3:a1|c][*3:a1]\n",
)

# A line that readers take and that is not in the one form, with its one form.
NOT_ONE_FORMS = (
    ("[b1 a1|x]", "[a1 b1|x]"),
    ("[+1 a1|x]", "[a1 +1|x]"),
    ("[-2 +1|x]", "[+1 -2|x]"),
    ("[*3:a1 -2|x]", "[-2 *3:a1|x]"),
    ("[#1 *3:a1|x]", "[*3:a1 #1|x]"),
    ("[#1 a1|x]", "[a1 #1|x]"),
    ("[#2 #1|x]", "[#1 #2|x]"),
    ("[#10 #9]", "[#9 #10]"),
    ("[#2 a1]", "[a1 #2]"),
    ("[a0|x]", "x"),
    ("[a0 b1|x]", "[b1|x]"),
    ("[d0 #1]", "[#1]"),
    ("[c0]", ""),
    ("[+1|a][+1|b]", "[+1|ab]"),
    ("[#1 #2|a][#1 #2|b][#1|c]", "[#1 #2|ab][#1|c]"),
    ("[+1|a][|][+1|b]", "[+1|ab]"),
    ("[+1|a][#1|][+1|b]", "[+1|ab]"),
    ("a[|b]c", "abc"),
    ("[|a]", "a"),
    ("[|]", ""),
    ("[#1|]", ""),
    ("a[#1|]", "a"),
    ("a[]", "a"),
    ("[]", ""),
    ("\\a", "a"),
    ("\\|", "|"),
    ("\\ ", " "),
    ("[#1|\\a]", "[#1|a]"),
    ("[#1|\\|]", "[#1||]"),
)


class StrictTest(DeskTest):
    def test_one_form_is_taken_and_held(self):
        for text in ONE_FORMS:
            self.assertEqual(run(strict(text), same(text)), [[0, 0], [1]], text)
            self.assertEqual(one_form(strict(text)), text)

    def test_all_else_is_refused_with_its_line(self):
        for line, written in NOT_ONE_FORMS:
            text = KINDS + line + "\n"
            self.assert_told(text, KINDS + written + "\n")
            self.assertEqual(run(strict(text)), [[7, 8]], text)

    def test_document_held_stays(self):
        for line, written in NOT_ONE_FORMS:
            answers = run(read(EXAMPLE), strict(KINDS + line + "\n"), form())
            self.assertEqual(answers, [[0, 0], [7, 8], [len(EXAMPLE)] + numbers(EXAMPLE)])

    def test_first_line_that_differs(self):
        self.assertEqual(run(strict(OTHER_EXAMPLE)), [[5, 8]])
        self.assertEqual(run(strict(KINDS + "a\n\nb\n[|c]\nd\n[|e]\n")), [[10, 8]])
        self.assertEqual(run(strict("tracked 1\ntext\n[]\n[]\n")), [[3, 8]])
        self.assertEqual(run(strict("tracked 1\ntext\na\n\\b\n")), [[4, 8]])
        self.assertEqual(run(strict("tracked 1\ntext\na\nb[]\n")), [[4, 8]])

    def test_neighbours_over_a_paragraphs_end_need_not_stand_together(self):
        text = KINDS + "[#1|a][#1]\n[#1|b]\n"
        self.assertEqual(run(strict(text)), [[0, 0]])

    def test_faults_come_ahead_of_the_form(self):
        self.assertEqual(run(strict("tracked 1\ntext\n\\a\n]\n")), [[4, 2]])
        self.assertEqual(run(strict("tracked 1\ntext\n\\a\nb")), [[4, 1]])
        self.assertEqual(run(strict("")), [[1, 7]])
        self.assertEqual(run(strict(KINDS + "[#1 a0|a][+1]\n")), [[7, 6]])

    def test_strict_puts_the_new_document_in_the_place_of_the_old(self):
        self.assertEqual(run(strict(EXAMPLE), strict(NEW), same(EXAMPLE), same(NEW)), [[0, 0], [0, 0], [0], [1]])
