"""Promise 8: settle, changes taken (1) or given up (2)."""

from tests.helper import (EXAMPLE, KINDS, NEW, NO_WAYS, DeskTest, form, join, numbers, one_form, paragraphs, part,
                          pieces, plain, read, run, same, settle, strict, table)

# Three changes of the kind paint, to have several pending looks of one property.
PAINTS = "tracked 1\n" + "".join(f"change {k} by {k} at {k} paint\n" for k in (1, 2, 3)) + "text\n"


class SettleTest(DeskTest):
    def test_new_object(self):
        self.assertEqual(run(settle(1), settle(2), same(NEW)), [[0], [0], [1]])

    def test_example(self):
        head = EXAMPLE[:EXAMPLE.index("a[")]
        self.assert_becomes(EXAMPLE, settle(1), [1], head + "aXc[#7]\n")
        self.assert_becomes(EXAMPLE, settle(2), [1], head + "abc[#7]\n")

    def test_every_mix_of_insertions_and_deletions(self):
        text = KINDS + "a[+1|b][+4|c][-2|d][-4|e][+1 -2|f][+4 -4|g][+1 +4 -2 -4|h]i\n"
        self.assert_becomes(text, settle(1), [5], KINDS + "abci\n")
        self.assert_becomes(text, settle(2), [5], KINDS + "adei\n")

    def test_table_stays_as_it_was(self):
        text = KINDS + "[+1|b][-2|d][*3:a1|e]\n"
        told = run(read(text), table())[1]
        for w in (1, 2):
            self.assertEqual(run(read(text), settle(w), table())[2], told)

    def test_tags_stay(self):
        text = KINDS + "[+1 #1|a][-2 #2 #5|b][*3:a1 #3|c][#4]\n"
        self.assert_becomes(text, settle(1), [1], KINDS + "[#1|a][a1 #3|c][#4]\n")
        self.assert_becomes(text, settle(2), [1], KINDS + "[#2 #5|b][#3|c][#4]\n")

    def test_looks(self):
        text = KINDS + "[a1 b2 c3 d4|x][a1 b2 c3 d4 *3:b9 *3:d0|y][+1 d5 *3:a6|z][-2 a7 *3:a8|v]\n"
        self.assert_becomes(text, settle(1), [1], KINDS + "[a1 b2 c3 d4|x][a1 b9 c3|y][a6 d5|z]\n")
        self.assert_becomes(text, settle(2), [1], KINDS + "[a1 b2 c3 d4|xy][a7|v]\n")

    def test_several_pending_looks_of_one_property(self):
        for marks, look in (("*1:a1 *2:a2 *3:a3", "a3"), ("*3:a3 *2:a2 *1:a1", "a1"), ("*1:a1 *3:a3 *2:a2", "a2"),
                            ("*2:b5 *1:a1 *3:b6 *3:a9", "a9 b6"), ("a5 *1:a7 *2:a0", ""), ("a5 *1:a0 *2:a7", "a7"),
                            ("a1 b2 c3 d4 *3:d9 *1:d8 *2:c7", "a1 b2 c7 d8"), ("*1:d99 *2:d98", "d98"),
                            ("a4 *1:a9 *2:a4", "a4")):
            own = " ".join(item for item in marks.split() if item[0] != "*")
            for w, items in ((1, look), (2, own)):
                settled = f"[{items}|x]" if items else "x"
                self.assert_becomes(PAINTS + f"[{marks}|x]\n", settle(w), [0], PAINTS + settled + "\n")
                tagged = f"[{items} #8|x]" if items else "[#8|x]"
                self.assert_becomes(PAINTS + f"[{marks} #8|x]\n", settle(w), [0], PAINTS + tagged + "\n")

    def test_the_last_end(self):
        text = PAINTS + "a[a5 *1:a1 *2:b2 #6]\n"
        self.assert_becomes(text, settle(1), [0], PAINTS + "a[a1 b2 #6]\n")
        self.assert_becomes(text, settle(2), [0], PAINTS + "a[a5 #6]\n")

    def test_paragraphs_run_together(self):
        text = KINDS + "ab[-2]\ncd[+1]\n[#1|e][+4 -4]\n\nf\n"
        self.assert_becomes(text, settle(1), [2], KINDS + "abcd\n[#1|e]\nf\n")
        self.assert_becomes(text, settle(2), [2], KINDS + "ab\ncd[#1|e]\nf\n")
        self.assertEqual(run(read(text), paragraphs(), settle(1), paragraphs())[1:],
                         [[5, 3, 3, 2, 1, 2], [2], [3, 5, 2, 2]])

    def test_ends_go_with_all_before_and_behind(self):
        text = KINDS + "[+1|a][+1]\n[+1 #1|b][+1]\n[+4]\n[-2|c][-2]\n[-4]\n[#9]\n"
        self.assert_becomes(text, settle(1), [3], KINDS + "a\n[#1|b]\n\n[#9]\n")
        self.assert_becomes(text, settle(2), [5], KINDS + "c\n\n[#9]\n")

    def test_all_go_but_the_last_end(self):
        text = KINDS + "[+4 -4|abc][+4 -4]\n[+1 -2|d][+1 -4]\n[+1 -2 #3|e][a1 *3:a2 #7]\n"
        self.assert_becomes(text, settle(1), [7], KINDS + "[a2 #7]\n")
        self.assert_becomes(text, settle(2), [7], KINDS + "[a1 #7]\n")

    def test_neighbours_that_are_dressed_alike_now_stand_together(self):
        text = KINDS + "[+1 #1|a][-2|b][+4 #1|c][#1|d][a3|e][*3:a3|f][+1 a3|g]\n"
        self.assert_becomes(text, settle(1), [1], KINDS + "[#1|acd][a3|efg]\n")
        text = KINDS + "[-2 #1|a][+1|b][-4 #1|c][#1|d][*3:a9 #1|e]f\n"
        self.assert_becomes(text, settle(2), [1], KINDS + "[#1|acde]f\n")

    def test_nothing_is_left_to_settle(self):
        text = KINDS + "[+1|a][-2|b][-2]\n[*3:a1|c][+4 -4|d][+4]\n[*3:b2]\n"
        for first in (1, 2):
            kept = one_form(read(text), settle(first))
            for second in (1, 2):
                given = run(read(text), settle(first), settle(second), form(), strict(kept), same(kept))
                self.assertEqual(given[2:], [[0], [len(kept)] + numbers(kept), [0, 0], [1]])

    def test_other_ways_are_refused(self):
        text = KINDS + "[+1|a][-2|b][*3:a1|c][-2]\n[#1]\n"
        for w in (0,) + NO_WAYS:
            given = run(read(text), settle(w), same(text), form(), table(), pieces(), plain(0))
            self.assertEqual(given[1:4], [[-2], [1], [len(text)] + numbers(text)], w)
            self.assertEqual(given[4:], run(read(text), table(), pieces(), plain(0))[1:], w)
            self.assertEqual(run(settle(w), same(NEW)), [[-2], [1]], w)

    def test_join_behind_it_counts_the_whole_table(self):
        joined = "tracked 1\nchange 1 by 9 at 9 put\ntext\n[+1|c]\n"
        self.assertEqual(one_form(read(KINDS + "[-2|a]b\n"), settle(1), join(joined)),
                         KINDS.replace("text\n", "change 5 by 9 at 9 put\ntext\n") + "b\n[+5|c]\n")

    def test_part_behind_it(self):
        text = KINDS + "a[+1]\nb[-2]\nc\n"
        self.assertEqual(run(read(text), part(0, 1), part(0, 2), settle(1), part(0, 1), same(KINDS + "a\n")),
                         [[0, 0], [-3], [-3], [1], [3], [1]])
        self.assertEqual(run(read(text), settle(2), part(0, 1), same(KINDS + "ab\n")), [[0, 0], [1], [2], [1]])

    def test_signs_with_a_backslash(self):
        self.assert_becomes(KINDS + "[+1|\\[][-2|\\]][+4|\\\\|]\n", settle(1), [1], KINDS + "\\[\\\\|\n")
        self.assert_becomes(KINDS + "[+1|\\[][-2|\\]][+4|\\\\|]\n", settle(2), [3], KINDS + "\\]\n")
