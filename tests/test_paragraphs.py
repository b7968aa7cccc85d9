"""Promise 12: paragraphs, how many pieces each has."""

from tests.helper import EXAMPLE, KINDS, DeskTest, join, paragraphs, part, read, run, same, settle, tidy


class ParagraphsTest(DeskTest):
    def assert_paragraphs(self, text, *lengths):
        given = run(read(text), paragraphs(), same(text))
        self.assertEqual(given[1:], [[len(lengths)] + list(lengths), [1]], text)

    def test_new_object(self):
        self.assertEqual(run(paragraphs()), [[1, 1]])

    def test_example(self):
        self.assert_paragraphs(EXAMPLE, 5)

    def test_empty_paragraphs(self):
        self.assert_paragraphs("tracked 1\ntext\n\n", 1)
        self.assert_paragraphs("tracked 1\ntext\n\n\n\n", 1, 1, 1)
        self.assert_paragraphs("tracked 1\ntext\n\nab\n\n[#1|cde][#2]\n\n", 1, 3, 1, 4, 1)

    def test_pieces_are_counted_not_signs_of_the_text(self):
        self.assert_paragraphs(KINDS + "\\a\\[\\\\[#1 +1|\\]b][-2|][|]\n[a1 b2]\n", 6, 1)

    def test_pieces_that_are_not_shown_count(self):
        self.assert_paragraphs(KINDS + "[+1|ab][-2|c][+4 -4]\n[-4|d][+1]\n[-2]\ne\n", 4, 2, 1, 2)

    def test_behind_the_other_calls(self):
        text = KINDS + "ab[-2]\nc[+1]\n\ndef\n"
        given = run(read(text), join(text), paragraphs(), part(2, 7), paragraphs(), settle(1), paragraphs(), tidy(),
                    paragraphs(), settle(2), paragraphs())
        self.assertEqual(given[2:], [[8, 3, 2, 1, 4, 3, 2, 1, 4], [9], [5, 1, 4, 3, 2, 1], [1], [4, 1, 4, 4, 1], [8],
                                     [4, 1, 4, 4, 1], [0], [4, 1, 4, 4, 1]])

    def test_one_paragraph_is_left_where_all_ends_go(self):
        self.assertEqual(run(read(KINDS + "a[-2]\n" * 7 + "b\n"), paragraphs(), settle(1), paragraphs())[1:],
                         [[8] + [2] * 8, [7], [1, 9]])
