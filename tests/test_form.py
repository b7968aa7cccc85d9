"""Promise 3: form, the one form of the document held."""

from tests.helper import EXAMPLE, KINDS, NEW, OTHER_EXAMPLE, DeskTest, form, numbers, one_form, read, run


class FormTest(DeskTest):
    def test_new_object(self):
        self.assertEqual(run(form()), [[16] + numbers(NEW)])

    def test_example(self):
        self.assertEqual(run(read(OTHER_EXAMPLE), form())[1], [len(EXAMPLE)] + numbers(EXAMPLE))

    def test_form_changes_nothing(self):
        answers = run(read(EXAMPLE), form(), form())
        self.assertEqual(answers[1], answers[2])

    def test_kinds_are_written_as_words(self):
        self.assertEqual(one_form(read(KINDS + "\n")), KINDS + "\n")

    def test_all_items_in_their_order(self):
        text = KINDS + "[#30 #4 *3:b0 *3:a99 -4 -2 +4 +1 d9 c8 b7 a6|x][#30 #4 *3:b0 *3:a99 d9 c8 b7 a6]\n"
        written = KINDS + "[a6 b7 c8 d9 +4 +1 -4 -2 *3:b0 *3:a99 #4 #30|x][a6 b7 c8 d9 *3:b0 *3:a99 #4 #30]\n"
        self.assertEqual(one_form(read(text)), written)

    def test_each_item_by_itself(self):
        for item in ("a1", "b2", "c3", "d99", "+1", "-2", "*3:a0", "*3:b1", "*3:c2", "*3:d3", "#1", "#999"):
            text = KINDS + f"[{item}|x]\n"
            self.assertEqual(one_form(read(text)), text)

    def test_neighbours_in_one_paragraph(self):
        self.assertEqual(one_form(read(KINDS + "a[|b][#1|c][#1 a0|d][#2|e][+1|f][+1|g]h\\i\n")),
                         KINDS + "ab[#1|cd][#2|e][+1|fg]hi\n")

    def test_neighbours_that_differ_in_the_order_of_a_list_stand_apart(self):
        text = KINDS + "[+1 +4|a][+4 +1|b][-2 -4|c][-4 -2|d][*3:a1 *3:b1|e][*3:b1 *3:a1|f]\n"
        self.assertEqual(one_form(read(text)), text)

    def test_neighbours_that_differ_in_one_thing_stand_apart(self):
        text = KINDS + "[a1|a][b1|a][a2|a][+1|a][-2|a][+4|a][-4|a][*3:a1|a][*3:a2|a][*3:b1|a][#1|a][#2|a]a[#1 #2|a]\n"
        self.assertEqual(one_form(read(text)), text)

    def test_neighbours_over_a_paragraphs_end(self):
        text = KINDS + "[#1|a][#1]\n[#1|b]\nc\nd\n"
        self.assertEqual(one_form(read(text)), text)

    def test_an_end_stands_apart_from_the_pieces_before_it(self):
        text = KINDS + "[#1|a][#1]\n"
        self.assertEqual(one_form(read(text)), text)

    def test_signs_that_need_a_backslash(self):
        self.assertEqual(one_form(read("tracked 1\ntext\n\\a\\[\\]\\\\\\|[#1|\\[\\]\\\\\\|\\#]\n")),
                         "tracked 1\ntext\na\\[\\]\\\\|[#1|\\[\\]\\\\|#]\n")

    def test_signs_of_every_sort(self):
        signs = "".join("\\" + chr(n) if chr(n) in "[]\\" else chr(n) for n in range(32, 127))
        text = f"tracked 1\ntext\n{signs}\n"
        self.assertEqual(one_form(read(text)), text)
