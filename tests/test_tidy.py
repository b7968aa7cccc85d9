"""Promise 7: tidy, a table without the changes that no piece bears."""

from tests.helper import (EXAMPLE, KINDS, NEW, DeskTest, cut_pieces, form, join, numbers, one_form, part, pieces, read,
                          run, same, settle, table, tidy)


def with_table(count, kinds, lines):
    """A text with so many changes, of these kinds in turn; the author of change k is k."""
    rows = [f"change {k} by {k} at {k * 10} {kinds[(k - 1) % len(kinds)]}\n" for k in range(1, count + 1)]
    return "tracked 1\n" + "".join(rows) + "text\n" + lines


class TidyTest(DeskTest):
    def test_new_object(self):
        self.assertEqual(run(tidy(), same(NEW)), [[0], [1]])

    def test_all_borne(self):
        self.assert_becomes(EXAMPLE, tidy(), [0], EXAMPLE)
        text = KINDS + "[+1|a][-2|b][*3:a1|c][-4|d]\n"
        self.assert_becomes(text, tidy(), [0], text)

    def test_none_borne(self):
        self.assert_becomes(KINDS + "[a1 #4|ab]\nc[#3]\n", tidy(), [4], "tracked 1\ntext\n[a1 #4|ab]\nc[#3]\n")

    def test_tags_and_looks_are_no_changes(self):
        self.assert_becomes(KINDS + "[a1 b2 c3 d4 +4 #1 #2 #3|x]\n", tidy(), [3],
                            "tracked 1\nchange 1 by 4 at 8 move\ntext\n[a1 b2 c3 d4 +1 #1 #2 #3|x]\n")

    def test_values_and_properties_are_no_changes(self):
        self.assert_becomes(KINDS + "[*3:b4 *3:d2|x]\n", tidy(), [3],
                            "tracked 1\nchange 1 by 3 at 7 paint\ntext\n[*1:b4 *1:d2|x]\n")

    def test_each_change_alone(self):
        lines = KINDS.splitlines(keepends=True)
        for item, number in (("+1", 1), ("-2", 2), ("*3:c7", 3), ("+4", 4), ("-4", 4)):
            row = lines[number].replace(f"change {number}", "change 1")
            new = item.replace(str(number), "1", 1)
            self.assert_becomes(KINDS + f"a[{item}|b]c\n", tidy(), [3], f"tracked 1\n{row}text\na[{new}|b]c\n")

    def test_each_change_away(self):
        items = {1: "+1", 2: "-2", 3: "*3:d9", 4: "-4"}
        for away in items:
            given = run(read(KINDS + "".join(f"[{items[k]}|x]" for k in items if k != away) + "\n"), tidy(), table())
            kept = [number for k in items if k != away for number in (k, k + 4, k)]
            self.assertEqual(given[1:], [[1], [3] + kept])

    def test_changes_at_a_paragraphs_end_are_borne(self):
        self.assert_becomes(KINDS + "a[-2]\n[*3:a1]\n", tidy(), [2],
                            "tracked 1\nchange 1 by 2 at 6 cut\nchange 2 by 3 at 7 paint\ntext\na[-1]\n[*2:a1]\n")

    def test_the_order_in_the_lists_stays(self):
        text = with_table(8, ["put", "move"], "[+8 +2 +5 -8 -4 #3|x]\n")
        row = "change 1 by 2 at 20 move\nchange 2 by 4 at 40 move\nchange 3 by 5 at 50 put\nchange 4 by 8 at 80 move\n"
        self.assert_becomes(text, tidy(), [4], f"tracked 1\n{row}text\n[+4 +1 +3 -4 -2 #3|x]\n")
        text = with_table(5, ["paint"], "[*5:a1 *2:a2 *5:b3 *4:a4|x]\n")
        self.assertEqual(cut_pieces(run(read(text), tidy(), pieces())[2])[0][4],
                         ((3, 0, 1), (1, 0, 2), (3, 1, 3), (2, 0, 4)))

    def test_pieces_with_one_dress_and_with_several(self):
        text = with_table(6, ["put"], "[+2|abc]d[+6|e][+2 +6|f][+2|g][+2]\n[+6|h]\n")
        row = "change 1 by 2 at 20 put\nchange 2 by 6 at 60 put\n"
        self.assert_becomes(text, tidy(), [4], f"tracked 1\n{row}text\n[+1|abc]d[+2|e][+1 +2|f][+1|g][+1]\n[+2|h]\n")

    def test_equal_changes_are_not_run_together(self):
        row = "change {} by 1 at 1 put\n"
        text = "tracked 1\n" + "".join(row.format(k) for k in (1, 2, 3)) + "text\n[+1|a][+3|b]\n"
        self.assert_becomes(text, tidy(), [1], "tracked 1\n" + row.format(1) + row.format(2) + "text\n[+1|a][+2|b]\n")

    def test_twice(self):
        text = with_table(9, ["cut"], "[-9|a][-3|b]\n")
        self.assertEqual(run(read(text), tidy(), tidy()), [[0, 0], [7], [0]])

    def test_times_stay_with_their_changes(self):
        text = f"tracked 1\nchange 1 by 1 at 2 put\nchange 2 by 1 at {'3' * 5000} cut\ntext\n[-2|a]\n"
        self.assert_becomes(text, tidy(), [1],
                            f"tracked 1\nchange 1 by 1 at {'3' * 5000} cut\ntext\n[-1|a]\n")

    def test_join_behind_it_counts_the_new_table(self):
        joined = KINDS + "[+1 -4 *3:b2|y][+4|z]\n"
        self.assertEqual(
            one_form(read(KINDS + "[-2|x]\n"), tidy(), join(joined)),
            "tracked 1\nchange 1 by 2 at 6 cut\nchange 2 by 1 at 5 put\nchange 3 by 2 at 6 cut\n"
            "change 4 by 3 at 7 paint\nchange 5 by 4 at 8 move\ntext\n[-1|x]\n[+2 -5 *4:b2|y][+5|z]\n")
        self.assertEqual(one_form(read(KINDS + "x\n"), tidy(), join(joined)), KINDS + "x\n[+1 -4 *3:b2|y][+4|z]\n")
        given = run(read(KINDS + "[-2|x]\n"), tidy(), join(joined), tidy(), table())
        self.assertEqual(given[1:], [[3], [0, 0], [1], [4, 2, 6, 2, 1, 5, 1, 3, 7, 3, 4, 8, 4]])

    def test_behind_a_part(self):
        text = KINDS + "[+1|a]\n[-2|b]\n[*3:a1|c]\n"
        self.assertEqual(run(read(text), part(1, 2), tidy(), same("tracked 1\nchange 1 by 2 at 6 cut\ntext\n[-1|b]\n")),
                         [[0, 0], [4], [3], [1]])

    def test_behind_settle_nothing_is_borne(self):
        text = KINDS + "[+1|a][-2|b][*3:a1|c][+4 -4|d]e\n"
        for w, went, kept in ((1, 2, "a[a1|c]e\n"), (2, 2, "bce\n")):
            given = run(read(text), settle(w), tidy(), form())
            kept = "tracked 1\ntext\n" + kept
            self.assertEqual(given[1:], [[went], [4], [len(kept)] + numbers(kept)])

    def test_a_long_table(self):
        rows = "".join(f"change {k} by 7 at {k} put\n" for k in range(1, 551))
        self.assertEqual(run(read(f"tracked 1\n{rows}text\n[+550|a][+275 +1|b]\n"), tidy(), table(), pieces())[1:],
                         [[547], [3, 7, 1, 1, 7, 275, 1, 7, 550, 1],
                          [3, 97, 0, 0, 0, 0, 1, 3, 0, 0, 0, 98, 0, 0, 0, 0, 2, 2, 1, 0, 0, 0, 10] + [0] * 8])
