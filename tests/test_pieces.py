"""Promise 10: pieces, all that the row holds, as numbers."""

from tests.helper import EXAMPLE, KINDS, DeskTest, join, part, pieces, read, run, same, settle, tidy

PLAIN = [0, 0, 0, 0, 0, 0, 0, 0]
FULL = "[a1 b2 c3 d4 +4 +1 -2 -4 *3:d9 *3:a0 #5 #10 #999|x]"
FULL_NUMBERS = [120, 1, 2, 3, 4, 2, 4, 1, 2, 2, 4, 2, 3, 3, 9, 3, 0, 0, 3, 5, 10, 999]


class PiecesTest(DeskTest):
    def assert_pieces(self, text, *told):
        given = run(read(text), pieces(), pieces(), same(text))
        expected = [len(told)] + [number for piece in told for number in piece]
        self.assertEqual(given[1:], [expected, expected, [1]], text)

    def test_new_object(self):
        self.assertEqual(run(pieces()), [[1, 10] + PLAIN])

    def test_example(self):
        self.assert_pieces(EXAMPLE, [97] + PLAIN, [98, 0, 0, 0, 0, 0, 1, 1, 0, 0], [88, 0, 0, 0, 0, 1, 2, 0, 0, 0],
                           [99] + PLAIN, [10, 0, 0, 0, 0, 0, 0, 0, 1, 7])

    def test_the_order_of_a_pieces_numbers(self):
        self.assert_pieces(KINDS + FULL + "\n", FULL_NUMBERS, [10] + PLAIN)

    def test_each_list_by_itself(self):
        for item, told in (("a7", [7, 0, 0, 0, 0, 0, 0, 0]), ("b7", [0, 7, 0, 0, 0, 0, 0, 0]),
                           ("c7", [0, 0, 7, 0, 0, 0, 0, 0]), ("d7", [0, 0, 0, 7, 0, 0, 0, 0]),
                           ("+1", [0, 0, 0, 0, 1, 1, 0, 0, 0]), ("-4", [0, 0, 0, 0, 0, 1, 4, 0, 0]),
                           ("*3:c99", [0, 0, 0, 0, 0, 0, 1, 3, 2, 99, 0]), ("#8", [0, 0, 0, 0, 0, 0, 0, 1, 8])):
            self.assert_pieces(KINDS + f"[{item}|x]\n", [120] + told, [10] + PLAIN)

    def test_several_pending_looks_of_one_property(self):
        head = "tracked 1\n" + "".join(f"change {k} by 1 at 1 paint\n" for k in (1, 2, 3)) + "text\n"
        self.assert_pieces(head + "[*3:b1 *1:b2 *2:a0 *1:a0|x][*2:d5 *1:d5]\n",
                           [120, 0, 0, 0, 0, 0, 0, 4, 3, 1, 1, 1, 1, 2, 2, 0, 0, 1, 0, 0, 0],
                           [10, 0, 0, 0, 0, 0, 0, 2, 2, 3, 5, 1, 3, 5, 0])

    def test_lists_in_the_order_told_and_tags_rising(self):
        given = run(read(KINDS + "[#9 -4 +4 #10 *3:b1 -2 *3:a1 +1 #2|x]\n"), pieces())
        self.assertEqual(given[1][:23],
                         [2, 120, 0, 0, 0, 0, 2, 4, 1, 2, 4, 2, 2, 3, 1, 1, 3, 0, 1, 3, 2, 9, 10])

    def test_neighbours_dressed_alike_and_not(self):
        tag = [0, 0, 0, 0, 0, 0, 0, 1]
        self.assert_pieces(KINDS + "[#1|ab][#2|c]d[#2|e][#2]\n[#1|f]\n", [97] + tag + [1], [98] + tag + [1],
                           [99] + tag + [2], [100] + PLAIN, [101] + tag + [2], [10] + tag + [2], [102] + tag + [1],
                           [10] + PLAIN)

    def test_signs_stand_by_themselves(self):
        self.assert_pieces("tracked 1\ntext\n\\[\\]\\\\ ~\n", *[[sign] + PLAIN for sign in (91, 93, 92, 32, 126, 10)])

    def test_empty_paragraphs(self):
        self.assert_pieces("tracked 1\ntext\n\n\n\n", *[[10] + PLAIN] * 3)

    def test_behind_join(self):
        raised = [120, 1, 2, 3, 4, 2, 8, 5, 2, 6, 8, 2, 7, 3, 9, 7, 0, 0, 3, 5, 10, 999]
        given = run(read(KINDS + FULL + "\n"), join(KINDS + FULL + "\n"), pieces())
        self.assertEqual(given[2], [4] + FULL_NUMBERS + [10] + PLAIN + raised + [10] + PLAIN)

    def test_behind_part_tidy_and_settle(self):
        text = KINDS + "a\n[+4 -2 #6|b][*3:c5 d1|c]\n"
        given = run(read(text), part(1, 2), pieces(), tidy(), pieces(), settle(1), pieces())
        end = [10] + PLAIN
        self.assertEqual(given[2], [3, 98, 0, 0, 0, 0, 1, 4, 1, 2, 0, 1, 6, 99, 0, 0, 0, 1, 0, 0, 1, 3, 2, 5, 0] + end)
        self.assertEqual(given[4], [3, 98, 0, 0, 0, 0, 1, 3, 1, 1, 0, 1, 6, 99, 0, 0, 0, 1, 0, 0, 1, 2, 2, 5, 0] + end)
        self.assertEqual(given[6], [2, 99, 0, 0, 5, 1, 0, 0, 0, 0] + end)
