"""Promise 6: part, some paragraphs alone."""

from tests.helper import EXAMPLE, KINDS, NEW, DeskTest, form, join, numbers, one_form, part, read, run, same

LINES = ("ab", "[+1|c][+1]", "", "[#1|de][-2]", "[*3:a1|f][*3:a1 #2]", "gh[-4]", "i")
TEXT = KINDS + "".join(line + "\n" for line in LINES)
PIECES = (3, 2, 1, 3, 2, 3, 2)
PLAIN_ENDS = (0, 2, 4, 6)


def parts():
    return [(i, j) for i in range(len(LINES)) for j in range(i + 1, len(LINES) + 1)]


class PartTest(DeskTest):
    def test_every_part(self):
        for i, j in parts():
            answers = run(read(TEXT), part(i, j), form())
            if j - 1 in PLAIN_ENDS:
                kept = KINDS + "".join(line + "\n" for line in LINES[i:j])
                self.assertEqual(answers[1], [sum(PIECES) - sum(PIECES[i:j])], (i, j))
            else:
                kept = TEXT
                self.assertEqual(answers[1], [-3], (i, j))
            self.assertEqual(answers[2], [len(kept)] + numbers(kept), (i, j))

    def test_bounds(self):
        count = len(LINES)
        for i, j in ((0, 0), (1, 1), (count, count), (3, 2), (1, 0), (-1, 1), (-1, 0), (-2, -1), (0, -1),
                     (0, count + 1), (count, count + 1), (count - 1, count + 1), (6, 6), (count + 1, count + 2)):
            self.assertEqual(run(read(TEXT), part(i, j), same(TEXT)), [[0, 0], [-1], [1]], (i, j))

    def test_numbers_far_outside(self):
        far = 10 ** 18
        for i, j in ((-far, far), (-far, 1), (0, far), (far, -far), (far, far), (-far, -far), (far - 1, far),
                     (0, -far)):
            self.assertEqual(run(read(TEXT), part(i, j), same(TEXT)), [[0, 0], [-1], [1]], (i, j))

    def test_bounds_are_looked_at_first(self):
        # Paragraph 1 has an end with an insertion.
        for i, j in ((2, 2), (-1, 2), (3, 2)):
            self.assertEqual(run(read(TEXT), part(i, j)), [[0, 0], [-1]], (i, j))
        self.assertEqual(run(read(TEXT), part(1, 2), part(0, 2), same(TEXT)), [[0, 0], [-3], [-3], [1]])

    def test_new_object(self):
        self.assertEqual(run(part(0, 1), part(0, 2), part(1, 1), same(NEW)), [[0], [-1], [-1], [1]])

    def test_whole_document(self):
        self.assertEqual(run(read(TEXT), part(0, len(LINES)), same(TEXT)), [[0, 0], [0], [1]])

    def test_several_in_a_row(self):
        answers = run(read(TEXT), part(1, 5), part(1, 4), part(0, 1), part(0, 2), part(0, 1), form())
        kept = KINDS + "\n"
        self.assertEqual(answers, [[0, 0], [8], [2], [5], [-1], [0], [len(kept)] + numbers(kept)])

    def test_part_behind_a_join(self):
        self.assertEqual(
            one_form(read(EXAMPLE), join(EXAMPLE), part(1, 2)),
            "tracked 1\nchange 1 by 2 at 40 cut\nchange 2 by 2 at 41 put\nchange 3 by 2 at 40 cut\n"
            "change 4 by 2 at 41 put\ntext\na[-3|b][+4|X]c[#7]\n",
        )

    def test_join_behind_a_part_counts_the_whole_table(self):
        joined = "tracked 1\nchange 1 by 1 at 1 put\ntext\n[+1|c]\n"
        self.assertEqual(one_form(read(KINDS + "[+1|a]\nb\n"), part(1, 2), join(joined)),
                         KINDS.replace("text\n", "change 5 by 1 at 1 put\ntext\n") + "b\n[+5|c]\n")
