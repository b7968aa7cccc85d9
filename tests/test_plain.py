"""Promise 9: plain, the signs of all pieces (0), of the shown ones (1), of those without insertions (2)."""

from tests.helper import (EXAMPLE, KINDS, NO_WAYS, DeskTest, form, join, numbers, part, plain, read, run, same, settle,
                          tidy)


class PlainTest(DeskTest):
    def assert_signs(self, text, whole, shown, before):
        """Plain answers these in its three ways, and the document held stays."""
        given = run(read(text), plain(0), plain(1), plain(2), same(text))
        self.assertEqual(given[1:], [[len(one)] + numbers(one) for one in (whole, shown, before)] + [[1]], text)

    def test_new_object(self):
        self.assertEqual(run(plain(0), plain(1), plain(2)), [[1, 10]] * 3)

    def test_example(self):
        self.assert_signs(EXAMPLE, "abXc\n", "aXc\n", "abc\n")

    def test_every_mix_of_insertions_and_deletions(self):
        self.assert_signs(KINDS + "a[+1|b][+4|c][-2|d][-4|e][+1 -2|f][+4 -4|g][+1 +4 -2 -4|h]i\n",
                          "abcdefghi\n", "abci\n", "adei\n")

    def test_looks_pending_looks_and_tags_hide_nothing(self):
        self.assert_signs(KINDS + "[a1|a][*3:a1 *3:b2|b][#1 #2|c][*3:c3 #4]\n", *["abc\n"] * 3)

    def test_ends_of_paragraphs(self):
        self.assert_signs(KINDS + "a[+1]\nb[-2]\nc[+4 -4]\n\nd\n", "a\nb\nc\n\nd\n", "a\nbc\nd\n", "ab\nc\nd\n")

    def test_signs_stand_by_themselves(self):
        self.assert_signs("tracked 1\ntext\n\\[\\]\\\\|[#1|\\[ \\]~]\n", *["[]\\|[ ]~\n"] * 3)

    def test_every_sign(self):
        signs = "".join(chr(n) for n in range(32, 127))
        written = "".join("\\" + sign for sign in signs)
        self.assert_signs(KINDS + f"{written}[+1|{written}][-4|{written}]\n", signs * 3 + "\n", *[signs * 2 + "\n"] * 2)

    def test_other_ways_are_refused(self):
        for w in NO_WAYS:
            given = run(read(EXAMPLE), plain(w), same(EXAMPLE), form())
            self.assertEqual(given[1:], [[-2], [1], [len(EXAMPLE)] + numbers(EXAMPLE)], w)
            self.assertEqual(run(plain(w)), [[-2]], w)

    def test_behind_the_other_calls(self):
        text = KINDS + "[+1|a][-2|b]c\nd\n"
        given = run(read(text), join(text), part(1, 3), tidy(), plain(0), plain(1), plain(2), settle(2), plain(0))
        self.assertEqual(given[4:], [[6] + numbers("d\nabc\n"), [5] + numbers("d\nac\n"), [5] + numbers("d\nbc\n"), [1],
                                     [5] + numbers("d\nbc\n")])

    def test_settle_keeps_what_plain_tells(self):
        text = KINDS + "[+1|a][-2|b][+4 -4|c]d[+1]\ne[-4]\n\n[*3:a1|f][+1 -2]\ng\n"
        for w in (1, 2):
            given = run(read(text), plain(w), settle(w), plain(0), plain(1), plain(2))
            self.assertEqual(given[3:], [given[1]] * 3)
            self.assertEqual(given[2], [len(run(read(text), plain(0))[1]) - len(given[1])])
