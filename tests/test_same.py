"""Promise 4: same, whether a text tells the document held."""

from tests.helper import EXAMPLE, KINDS, NEW, OTHER_EXAMPLE, DeskTest, form, join, numbers, read, run, same

LINE = "[a1 b2 c3 d4 +1 +4 -2 -4 *3:a1 *3:b2 #1 #2|x]y[a5 *3:a1 #3]"
OTHER_LINES = (
    LINE.replace("a1 b2", "a2 b2"),
    LINE.replace("b2 c3", "b3 c3"),
    LINE.replace("c3 d4", "c4 d4"),
    LINE.replace("d4", "d5"),
    LINE.replace("+1 +4", "+4 +1"),
    LINE.replace("+1 +4", "+1"),
    LINE.replace("-2 -4", "-4 -2"),
    LINE.replace("-2 -4", "-4"),
    LINE.replace("*3:a1 *3:b2", "*3:b2 *3:a1"),
    LINE.replace("*3:b2", "*3:b3"),
    LINE.replace("*3:b2", "*3:c2"),
    LINE.replace("#1 #2", "#1"),
    LINE.replace("#1 #2", "#1 #3"),
    LINE.replace("|x]", "|y]"),
    LINE.replace("|x]", "|xx]"),
    LINE.replace("|x]y", "|xy]"),
    LINE.replace("]y", "]"),
    LINE.replace("]y", "]\n"),
    LINE.replace("#3]", "#4]"),
    LINE.replace("a5", "a6"),
    LINE.replace("[a5 *3:a1 #3]", ""),
    LINE + "\n",
    "\n" + LINE,
)


class SameTest(DeskTest):
    def test_new_document(self):
        self.assertEqual(run(same(NEW), same("tracked 1\ntext\n[]\n"), same("tracked 1\ntext\n\n\n")), [[1], [1], [0]])

    def test_example_however_it_is_written(self):
        self.assertEqual(run(read(EXAMPLE), same(EXAMPLE), same(OTHER_EXAMPLE)), [[0, 0], [1], [1]])

    def test_order_of_items_that_does_not_count(self):
        turned = "[#2 *3:a1 -2 +1 d4 #1 *3:b2 -4 +4 c3 b2 a1|x]\\y[#3 *3:a1 a5]"
        self.assertEqual(run(read(KINDS + LINE + "\n"), same(KINDS + turned + "\n")), [[0, 0], [1]])

    def test_pieces_that_differ_in_one_place(self):
        for line in OTHER_LINES:
            self.assertNotEqual(line, LINE)
            self.assertEqual(run(read(KINDS + LINE + "\n"), same(KINDS + line + "\n")), [[0, 0], [0]], line)
            self.assertEqual(run(read(KINDS + line + "\n"), same(KINDS + LINE + "\n")), [[0, 0], [0]], line)

    def test_tables_that_differ_in_one_place(self):
        held = KINDS + "a\n"
        for old, new in (("by 1 ", "by 2 "), ("at 5 ", "at 6 "), ("1 at 5 put", "1 at 5 move"),
                         ("text\n", "change 5 by 1 at 1 put\ntext\n"), ("change 4 by 4 at 8 move\n", "")):
            self.assertEqual(run(read(held), same(held.replace(old, new))), [[0, 0], [0]], new)
            self.assertEqual(run(read(held.replace(old, new)), same(held)), [[0, 0], [0]], new)

    def test_fault(self):
        self.assertEqual(run(same("")), [[-1]])
        self.assertEqual(run(read(EXAMPLE), same(EXAMPLE[:-1]), same(KINDS + "[+1]\n")), [[0, 0], [-1], [-1]])

    def test_nothing_changes(self):
        answers = run(read(EXAMPLE), same(NEW), same(EXAMPLE), same(""), form())
        self.assertEqual(answers[-1], [len(EXAMPLE)] + numbers(EXAMPLE))

    def test_joined_document_is_the_same_as_the_one_told_in_one_text(self):
        self.assertEqual(run(join(KINDS + "[+1|a]\n"), same(KINDS + "\n[+1|a]\n")), [[0, 0], [1]])
