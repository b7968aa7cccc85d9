"""Promise 1: read, and the faults of a text."""

from tests.helper import EXAMPLE, KINDS, NEW, OTHER_EXAMPLE, DeskTest, form, numbers, one_form, read, run, same


def in_kinds(line):
    """A text whose line 7 is this paragraph's line, the last one."""
    return KINDS + line + "\n"


class TakenTest(DeskTest):
    def test_example(self):
        self.assert_told(EXAMPLE, EXAMPLE)

    def test_other_way_to_write_the_example(self):
        self.assert_told(OTHER_EXAMPLE, EXAMPLE)

    def test_text_as_line_two(self):
        self.assert_told("tracked 1\ntext\nabc\n", "tracked 1\ntext\nabc\n")

    def test_empty_paragraphs(self):
        self.assert_told("tracked 1\ntext\n\n\na\n\n", "tracked 1\ntext\n\n\na\n\n")

    def test_paragraph_lines_that_look_like_others(self):
        lines = "tracked 1\ntext\ntext\ntracked 1\nchange 1 by 2 at 40 cut\n"
        self.assert_told(lines, lines)

    def test_every_sign_without_a_backslash(self):
        signs = "".join(chr(n) for n in range(32, 127) if chr(n) not in "[]\\")
        self.assert_told(f"tracked 1\ntext\n{signs}\n", f"tracked 1\ntext\n{signs}\n")
        self.assert_told(in_kinds(f"[#1|{signs}]"), in_kinds(f"[#1|{signs}]"))

    def test_every_sign_with_a_backslash(self):
        for n in range(32, 127):
            sign = chr(n)
            written = "\\" + sign if sign in "[]\\" else sign
            self.assert_told(in_kinds("\\" + sign), in_kinds(written))
            self.assert_told(in_kinds(f"[+1|\\{sign}]"), in_kinds(f"[+1|{written}]"))

    def test_bar_is_a_sign_outside_marks(self):
        self.assert_told(in_kinds("|a|[#1||b||]|"), in_kinds("|a|[#1||b||]|"))

    def test_backslash_pairs(self):
        self.assert_told(in_kinds("\\\\[#1|\\\\]\\\\"), in_kinds("\\\\[#1|\\\\]\\\\"))

    def test_items_in_any_order(self):
        self.assert_told(
            in_kinds("[#9 *3:d9 -4 +4 d4 #10 *3:a1 c3 -2 b2 +1 a1 #2|x]"),
            in_kinds("[a1 b2 c3 d4 +4 +1 -4 -2 *3:d9 *3:a1 #2 #9 #10|x]"),
        )

    def test_greatest_and_least_values(self):
        self.assert_told(
            in_kinds("[a99 b0 *3:c99 *3:d0 #1 #999|x][a99 #999]"),
            in_kinds("[a99 *3:c99 *3:d0 #1 #999|x][a99 #999]"),
        )
        line = "change 1 by 1 at 0 put\nchange 2 by 99 at 0 put\n"
        self.assert_told(f"tracked 1\n{line}text\n\n", f"tracked 1\n{line}text\n\n")

    def test_same_items_in_different_marks(self):
        self.assert_told(in_kinds("[+1|a][+1 #1|b][+1|c]"), in_kinds("[+1|a][+1 #1|b][+1|c]"))

    def test_one_change_in_different_places(self):
        self.assert_told(in_kinds("[+4 -4 *3:a1 *3:b1|x]"), in_kinds("[+4 -4 *3:a1 *3:b1|x]"))

    def test_ends_that_are_not_the_last(self):
        self.assert_told(KINDS + "[+1]\n[-2]\n\n", KINDS + "[+1]\n[-2]\n\n")

    def test_last_end_may_have_the_rest(self):
        self.assert_told(in_kinds("[a1 *3:b2 #3]"), in_kinds("[a1 *3:b2 #3]"))

    def test_ten_changes(self):
        table = "".join(f"change {n} by 1 at 0 put\n" for n in range(1, 12))
        text = f"tracked 1\n{table}text\n[+11 +10|a]\n"
        self.assert_told(text, text)

    def test_read_puts_the_new_document_in_the_place_of_the_old(self):
        second = "tracked 1\nchange 1 by 9 at 9 move\ntext\nz\n"
        self.assertEqual(one_form(read(EXAMPLE), read(second)), second)
        self.assertEqual(run(read(EXAMPLE), read(second), same(EXAMPLE), same(second))[2:], [[0], [1]])

    def test_document_held_stays_behind_a_fault(self):
        answers = run(read(EXAMPLE), read("tracked 1\ntext\nabc"), form())
        self.assertEqual(answers[:2], [[0, 0], [3, 1]])
        self.assertEqual(answers[2], [len(EXAMPLE)] + numbers(EXAMPLE))


class ReasonOneTest(DeskTest):
    def test_not_ended(self):
        self.assert_fault("tracked 1", 1, 1)
        self.assert_fault("tracked 1\nchange 1 by 2 at 40 cut", 2, 1)
        self.assert_fault("tracked 1\ntext", 2, 1)
        self.assert_fault("tracked 1\ntext\nabc", 3, 1)
        self.assert_fault("tracked 1\ntext\nabc\nd", 4, 1)

    def test_numbers_that_are_no_signs(self):
        lines = [numbers(line) for line in ("tracked 1", "change 1 by 2 at 40 cut", "text", "a[#1|b]")]
        for number in (-10 ** 18, -1, 0, 9, 11, 13, 31, 127, 128, 160, 10 ** 18):
            for at in range(len(lines)):
                wrong = lines[:at] + [lines[at] + [number]] + lines[at + 1:]
                self.assert_fault([n for line in wrong for n in line + [10]], at + 1, 1)

    def test_first_and_last_sign_are_signs(self):
        self.assert_told("tracked 1\ntext\n ~\n", "tracked 1\ntext\n ~\n")

    def test_ahead_of_every_other_reason(self):
        for line in ("[", "[x|a]", "[#0|a]", "[#1 #1|a]", "[+1]"):
            self.assert_fault(KINDS + line, 7, 1)
            self.assert_fault(numbers(KINDS + line) + [31, 10], 7, 1)
        self.assert_fault("no", 1, 1)
        self.assert_fault("tracked 1\nchange 0 by x", 2, 1)


class ReasonTwoTest(DeskTest):
    def test_line_one(self):
        for line in ("", "tracked 2", "tracked 1 ", " tracked 1", "tracked  1", "Tracked 1", "tracked", "tracked 01",
                     "text", "tracked 10", "change 1 by 2 at 40 cut"):
            self.assert_fault(line + "\ntext\n\n", 1, 2)

    def test_change_lines(self):
        for line in ("", " ", "tracked 1", "text ", " text", "Text", "change", "change 1 by 2 at 40", "a b c d e f g",
                     "change 1 by 2 at 40 cut ", " change 1 by 2 at 40 cut", "change  1 by 2 at 40 cut",
                     "change 1 by 2 at 40 cut put", "changes 1 by 2 at 40 cut", "Change 1 by 2 at 40 cut",
                     "change 1 bye 2 at 40 cut", "change 1 by 2 on 40 cut", "change 1 by 2 at 40 cuts",
                     "change 1 by 2 at 40 Cut", "change 1 by 2 at 40 ", "change 1 by 2 at 40 2", " 1 by 2 at 40 cut",
                     "change 1  2 at 40 cut", "change 1 by 2  40 cut"):
            self.assert_fault(f"tracked 1\n{line}\ntext\n\n", 2, 2)

    def test_second_change_line(self):
        self.assert_fault("tracked 1\nchange 1 by 2 at 40 cut\n\ntext\n\n", 3, 2)

    def test_paragraph_lines(self):
        for line in ("[", "a[", "[#1", "[#1|", "[#1|a", "[|", "]", "a]", "]a", "[#1|a]]", "[#1]]", "[[", "[[#1]",
                     "[#1[|a]", "[#1|a[b]", "[#1|[#1|a]]", "[#1|a[#2]", "[#1|a[", "[#1|a[b", "[#1|a[[#2|b]", "\\",
                     "a\\", "\\\\\\", "[#1|\\", "[#1|a\\", "[#1|a]\\", "[\\", "[\\|a]", "[#1\\|a]", "[#1\\]",
                     "[\\]|a]", "[\\[|a]", "[#1 \\a|b]", "[#1]a", "[#1] ", "[]a", "[#1][#1]", "[][]", "[#1][#1|a]",
                     "a[#1]|", "[#1]\\", "[#1|a\\]", "[\\\\|a]", "[#1|a]b]"):
            self.assert_fault(in_kinds(line), 7, 2)

    def test_ahead_of_the_reasons_behind_it(self):
        self.assert_fault("tracked 1\nchange x by 200 at 01 no\ntext\n\n", 2, 2)
        for line in ("[x|a]b]", "[#0|a][", "[#1 #1|a]\\", "[x]a", "[+1]a"):
            self.assert_fault(in_kinds(line), 7, 2)


class ReasonThreeTest(DeskTest):
    def test_change_lines(self):
        for wrong in ("", "x", "01", "00", "-1", "+1", "1x", "x1", "1.", "0x1", "1_0", "/", ":"):
            self.assert_fault(f"tracked 1\nchange {wrong} by 2 at 40 cut\ntext\n\n", 2, 3)
            self.assert_fault(f"tracked 1\nchange 1 by {wrong} at 40 cut\ntext\n\n", 2, 3)
            self.assert_fault(f"tracked 1\nchange 1 by 2 at {wrong} cut\ntext\n\n", 2, 3)

    def test_paragraph_lines(self):
        for marks in (" ", "  ", " #1", "#1 ", "#1  #2", "a", "a-1", "a01", "a00", "A1", "e1", "`1", "1", "1a", "a1b2",
                      "aa1", "+", "+a", "+01", "++1", "-", "--1", "-01", "#", "#01", "##1", "#1,#2", "*", "*3", "*3:",
                      "*:a1", "*3:a", "*3:1", "*3:e1", "*03:a1", "*3:a01", "*3a1", "*3:a1:b1", "*3::a1", "*:", ":a1",
                      "*+3:a1", "*3:#1", "*3:A1", "x", "a 1", "text", "#1;", "#/", "#:", "+1-2", "*3 :a1", "*a:a1"):
            self.assert_fault(in_kinds(f"[{marks}|a]"), 7, 3)
            self.assert_fault(in_kinds(f"[{marks}]"), 7, 3)
            self.assert_fault(in_kinds(f"[{marks}|]"), 7, 3)

    def test_ahead_of_the_reasons_behind_it(self):
        self.assert_fault("tracked 1\nchange 7 by 200 at x cut\ntext\n\n", 2, 3)
        self.assert_fault("tracked 1\nchange 7 by x at 1 cut\ntext\n\n", 2, 3)
        for line in ("[#0|a][x|b]", "[x|a][#0|b]", "[#1 #1|a][x|b]", "[x|a][+1]", "[#0 x]", "[+1 +1 x]"):
            self.assert_fault(in_kinds(line), 7, 3)


class ReasonFourTest(DeskTest):
    def test_change_lines(self):
        for number in ("0", "2", "10", "11"):
            self.assert_fault(f"tracked 1\nchange {number} by 2 at 40 cut\ntext\n\n", 2, 4)
        for number in ("0", "1", "3"):
            self.assert_fault(f"tracked 1\nchange 1 by 2 at 4 cut\nchange {number} by 2 at 4 cut\ntext\n\n", 3, 4)
        for author in ("0", "100", "101", "1000"):
            self.assert_fault(f"tracked 1\nchange 1 by {author} at 40 cut\ntext\n\n", 2, 4)

    def test_paragraph_lines(self):
        for item in ("a100", "b100", "c100", "d1000", "*3:a100", "*3:d100", "#0", "#1000", "+0", "-0", "*0:a1", "+5",
                     "-5", "*5:a1", "+10", "*3:b999"):
            self.assert_fault(in_kinds(f"[{item}|a]"), 7, 4)
            self.assert_fault(in_kinds(f"[{item}]"), 7, 4)
            self.assert_fault(in_kinds(f"[{item}|]b"), 7, 4)
            self.assert_fault(in_kinds(f"[#1|a][#2 {item} #3|a]"), 7, 4)

    def test_no_change_in_an_empty_table(self):
        self.assert_fault("tracked 1\ntext\n[+1|a]\n", 3, 4)

    def test_ahead_of_the_reasons_behind_it(self):
        for line in ("[#1 #1|a][#0|b]", "[#0|a][#1 #1|b]", "[+2|a][+5|b]", "[#0 #0|a]", "[#0|a][+1]", "[+5]",
                     "[+0 +0]"):
            self.assert_fault(in_kinds(line), 7, 4)


class ReasonFiveTest(DeskTest):
    def test_items_twice(self):
        for marks in ("a1 a1", "a1 a2", "a0 a0", "b0 b1", "c1 c1", "d5 a1 d5", "+1 +1", "+1 +4 +1", "-2 -2", "-4 -2 -4",
                      "*3:a1 *3:a1", "*3:a1 *3:a2", "*3:b0 *3:a0 *3:b0", "#1 #1", "#1 #2 #1", "#999 #999"):
            self.assert_fault(in_kinds(f"[{marks}|a]"), 7, 5)
            self.assert_fault(in_kinds(f"[{marks}]"), 7, 5)
            self.assert_fault(in_kinds(f"[{marks}|]b"), 7, 5)
            self.assert_fault(in_kinds(f"[#1|a][{marks}|a]"), 7, 5)

    def test_kinds_that_do_not_go_there(self):
        for item in ("+2", "+3", "-1", "-3", "*1:a1", "*2:b1", "*4:c1"):
            self.assert_fault(in_kinds(f"[{item}|a]"), 7, 5)
            self.assert_fault(in_kinds(f"[#1 {item}]"), 7, 5)
            self.assert_fault(in_kinds(f"[{item}|]b"), 7, 5)

    def test_kinds_that_go_there(self):
        for item in ("+1", "+4", "-2", "-4", "*3:a1"):
            self.assert_told(in_kinds(f"[{item}|a]"), in_kinds(f"[{item}|a]"))

    def test_ahead_of_reason_six(self):
        self.assert_fault(in_kinds("[#1 #1|a][+1]"), 7, 5)
        self.assert_fault(in_kinds("[+1 +1]"), 7, 5)
        self.assert_fault(in_kinds("[+2]"), 7, 5)

    def test_doubles_count_only_within_one_and_the_same_marks(self):
        line = "[a1 +1 -2 *3:a1 #1|a]b[a1 +1 -2 *3:a1 #1|c]"
        self.assert_told(in_kinds(line), in_kinds(line))


class ReasonSixTest(DeskTest):
    def test_last_end(self):
        for marks in ("+1", "+4", "-2", "-4", "+1 -2", "a1 +1", "#1 -4"):
            self.assert_fault(in_kinds(f"[{marks}]"), 7, 6)
            self.assert_fault(in_kinds(f"abc[{marks}]"), 7, 6)
            self.assert_fault(KINDS + f"a\n[{marks}]\n", 8, 6)

    def test_pieces_ahead_of_the_last_end(self):
        self.assert_told(in_kinds("[+1|a]"), in_kinds("[+1|a]"))
        self.assert_told(in_kinds("[-2|a][#1]"), in_kinds("[-2|a][#1]"))

    def test_not_the_last_line_if_a_wrong_one_follows(self):
        self.assert_fault(KINDS + "[+1]\nx", 8, 1)
        self.assert_fault(KINDS + "[+1]\n]\n", 8, 2)


class ReasonSevenTest(DeskTest):
    def test_no_lines(self):
        self.assert_fault("", 1, 7)

    def test_no_line_text(self):
        self.assert_fault("tracked 1\n", 2, 7)
        self.assert_fault("tracked 1\nchange 1 by 2 at 40 cut\n", 3, 7)

    def test_no_line_behind_the_line_text(self):
        self.assert_fault("tracked 1\ntext\n", 3, 7)
        self.assert_fault(KINDS, 7, 7)

    def test_lines_that_are_there_come_first(self):
        self.assert_fault("\n", 1, 2)
        self.assert_fault("tracked 2\n", 1, 2)
        self.assert_fault("tracked 1\nchange 1 by 0 at 40 cut\n", 2, 4)


class FirstWrongLineTest(DeskTest):
    def test_first_of_several(self):
        self.assert_fault("tracked 2\nchange 0\ntext\n]\n", 1, 2)
        self.assert_fault("tracked 1\nchange 0 by 1 at 1 put\nno\ntext\n]\n", 2, 4)
        self.assert_fault(KINDS + "[#0]\n]\n[x|a]", 7, 4)
        self.assert_fault(KINDS + "a\n[#1 #1]\n[x|a]\n[+1]\n", 8, 5)

    def test_lines_behind_are_not_looked_at(self):
        self.assert_fault("tracked 1\nchange 1 by 100 at 1 put\ntext\n[", 2, 4)

    def test_line_text_is_the_first_such_line(self):
        self.assert_fault("tracked 1\ntext\nchange 1 by 1 at 1 put\ntext\n[+1|a]\n", 5, 4)

    def test_new_document_is_not_a_fault(self):
        self.assert_told(NEW, NEW)
