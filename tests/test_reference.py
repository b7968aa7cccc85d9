"""Long rows of calls, answered by the program and by a second, slow reading of the document."""

import itertools
import random
import re
import unittest

from tests.helper import EXAMPLE, KINDS, OTHER_EXAMPLE, cut_answers, numbers, with_text
from trackedtextdesk.written import answers

NUMERAL = "(0|[1-9][0-9]*)"
CHANGE = re.compile(f"change {NUMERAL} by {NUMERAL} at {NUMERAL} (put|cut|paint|move)")
CHANGE_SHAPE = re.compile("change [^ ]* by [^ ]* at [^ ]* (put|cut|paint|move)")
SIGN = r"(?:[^\[\]\\]|\\.)"
MARKS = r"[^\[\]|\\]*"
PARAGRAPH = re.compile(rf"(?:{SIGN}|\[{MARKS}\|{SIGN}*\])*(?:\[{MARKS}\])?")
TOKEN = re.compile(rf"\[({MARKS})\|({SIGN}*)\]|\[({MARKS})\]|({SIGN})")
ITEM = re.compile(rf"(?:[abcd]|[+#-]|\*{NUMERAL}:[abcd]){NUMERAL}")
WORDS = ["put", "cut", "paint", "move"]
PLAIN = ((0, 0, 0, 0), (), (), (), ())


class Fault(Exception):
    pass


def check(is_right, line, reason):
    if not is_right:
        raise Fault(line, reason)


def document_of(text):
    """The table and the pieces that a text tells; raises Fault."""
    lines = "".join(chr(n) if n == 10 or 32 <= n <= 126 else "\x00" for n in text).split("\n")
    ended = len(lines) - 1
    if lines[-1] == "":
        lines.pop()
    table = []
    pieces = []
    seen_text = False
    for number, line in enumerate(lines, start=1):
        check(number <= ended and "\x00" not in line, number, 1)
        if number == 1:
            check(line == "tracked 1", number, 2)
        elif seen_text:
            pieces += paragraph_of(line, number, table, number == len(lines))
        elif line == "text":
            seen_text = True
        else:
            table.append(change_of(line, number, len(table) + 1))
    check(pieces, len(lines) + 1, 7)
    return table, pieces


def change_of(line, number, due):
    check(CHANGE_SHAPE.fullmatch(line), number, 2)
    match = CHANGE.fullmatch(line)
    check(match, number, 3)
    check(match[1] == str(due) and match[2] in [str(n) for n in range(1, 100)], number, 4)
    return int(match[2]), match[3], WORDS.index(match[4]) + 1


def paragraph_of(line, number, table, is_last):
    check(PARAGRAPH.fullmatch(line), number, 2)
    tokens = [match.groups() for match in TOKEN.finditer(line)]
    all_marks = [inner or end or "" for inner, signs, end, sign in tokens]
    all_items = [marks.split(" ") if marks else [] for marks in all_marks]
    check(all(ITEM.fullmatch(item) for items in all_items for item in items), number, 3)
    check(all(in_range(item, len(table)) for items in all_items for item in items), number, 4)
    for items in all_items:
        keys = [item[0] if item[0] in "abcd" else re.sub("([abcd]).*", "\\1", item) for item in items]
        check(len(set(keys)) == len(keys), number, 5)
        check(all(of_kind(item, table) for item in items), number, 5)
    pieces = []
    end = PLAIN
    for (inner, signs, end_marks, sign), items in zip(tokens, all_items):
        if end_marks is not None:
            end = dress_of(items)
        for one in re.findall(SIGN, signs or sign or ""):
            pieces.append((ord(one[-1]), dress_of(items)))
    check(not (is_last and (end[1] or end[2])), number, 6)
    return pieces + [(10, end)]


def in_range(item, count):
    told = [int(digits) for digits in re.findall("[0-9]+", item)]
    if item[0] == "#":
        return 1 <= told[0] <= 999
    if item[0] in "abcd":
        return told[0] <= 99
    return 1 <= told[0] <= count and (item[0] != "*" or told[1] <= 99)


def of_kind(item, table):
    allowed = {"+": (1, 4), "-": (2, 4), "*": (3,)}.get(item[0])
    return allowed is None or table[int(re.search("[0-9]+", item)[0]) - 1][2] in allowed


def dress_of(items):
    look = [0, 0, 0, 0]
    lists = {"+": [], "-": [], "*": [], "#": []}
    for item in items:
        if item[0] in "abcd":
            look["abcd".index(item[0])] = int(item[1:])
        elif item[0] == "*":
            change, told = item[1:].split(":")
            lists["*"].append((int(change), "abcd".index(told[0]), int(told[1:])))
        else:
            lists[item[0]].append(int(item[1:]))
    return tuple(look), tuple(lists["+"]), tuple(lists["-"]), tuple(lists["*"]), tuple(sorted(lists["#"]))


def marks_of(dress):
    look, insertions, deletions, pending, tags = dress
    items = [letter + str(value) for letter, value in zip("abcd", look) if value]
    items += [f"+{change}" for change in insertions] + [f"-{change}" for change in deletions]
    items += [f"*{change}:{'abcd'[place]}{value}" for change, place, value in pending]
    return " ".join(items + [f"#{tag}" for tag in tags])


def paragraphs_of(pieces):
    paragraphs = [[]]
    for piece in pieces:
        paragraphs[-1].append(piece)
        if piece[0] == 10:
            paragraphs.append([])
    return paragraphs[:-1]


def form_of(table, pieces):
    lines = ["tracked 1"]
    lines += [f"change {n} by {by} at {at} {WORDS[kind - 1]}" for n, (by, at, kind) in enumerate(table, start=1)]
    lines.append("text")
    for paragraph in paragraphs_of(pieces):
        line = ""
        for dress, run in itertools.groupby(paragraph[:-1], key=lambda piece: piece[1]):
            signs = re.sub(r"([\[\]\\])", r"\\\1", "".join(chr(sign) for sign, worn in run))
            line += signs if dress == PLAIN else f"[{marks_of(dress)}|{signs}]"
        end = paragraph[-1][1]
        lines.append(line if end == PLAIN else f"{line}[{marks_of(end)}]")
    return "".join(line + "\n" for line in lines)


def raised(piece, by):
    sign, (look, insertions, deletions, pending, tags) = piece
    return sign, (look, tuple(n + by for n in insertions), tuple(n + by for n in deletions),
                  tuple((n + by, place, value) for n, place, value in pending), tags)


class SlowDesk:
    def __init__(self):
        self.table = []
        self.pieces = [(10, PLAIN)]

    def answer(self, call):
        if call[0] == 2:
            form = form_of(self.table, self.pieces)
            return [len(form)] + numbers(form)
        if call[0] == 5:
            return self.part(call[1], call[2])
        text = call[2:]
        try:
            table, pieces = document_of(text)
        except Fault as fault:
            return [-1] if call[0] == 3 else list(fault.args)
        if call[0] == 3:
            return [int((table, pieces) == (self.table, self.pieces))]
        if call[0] == 4:
            pieces = self.pieces + [raised(piece, len(self.table)) for piece in pieces]
            table = self.table + table
        if call[0] == 1:
            lines = zip("".join(map(chr, text)).split("\n"), form_of(table, pieces).split("\n"), strict=True)
            apart = [n for n, (told, written) in enumerate(lines, start=1) if told != written]
            if apart:
                return [apart[0], 8]
        self.table = table
        self.pieces = pieces
        return [0, 0]

    def part(self, i, j):
        paragraphs = paragraphs_of(self.pieces)
        if not 0 <= i < j <= len(paragraphs):
            return [-1]
        end = paragraphs[j - 1][-1][1]
        if end[1] or end[2]:
            return [-3]
        before = len(self.pieces)
        self.pieces = [piece for paragraph in paragraphs[i:j] for piece in paragraph]
        return [before - len(self.pieces)]


class Maker:
    """Makes calls from a seed: texts that are right, nearly right, and wrong."""

    def __init__(self, seed):
        self.chance = random.Random(seed)

    def one_of(self, choices):
        return choices[self.chance.randrange(len(choices))]

    def number(self, usual, odd):
        return str(self.chance.randint(1, max(usual, 1))) if self.chance.random() < 0.97 else self.one_of(odd)

    def item(self, kinds):
        mark = self.one_of("aabcd+++---***##")
        odd = ["0", "00", "01", "99", "100", "999", "1000", "", "5", "1" * 20]
        if mark == "#":
            return mark + self.number(12, odd)
        if mark in "abcd":
            return mark + self.one_of(["0", "1", "2", self.number(99, odd)])
        going = {"+": "14", "-": "24", "*": "3"}[mark]
        fitting = [n for n, kind in enumerate(kinds, start=1) if str(kind) in going]
        if not fitting and self.chance.random() < 0.95:
            return "c" + self.number(3, odd)
        change = str(self.one_of(fitting)) if fitting and self.chance.random() < 0.97 else self.number(len(kinds), odd)
        return mark + change + (f":{self.one_of('abcd')}{self.number(3, odd)}" if mark == "*" else "")

    def marks(self, kinds):
        items = [self.item(kinds) for n in range(self.one_of([0, 1, 1, 1, 2, 2, 3, 5]))]
        if self.chance.random() < 0.9:
            items = list({item.rstrip("0123456789") if item[0] in "abcd*" else item: item for item in items}.values())
        return " ".join(items)

    def signs(self, most):
        signs = ""
        for n in range(self.chance.randint(0, most)):
            sign = self.one_of("aab |#+:1~[]\\")
            signs += "\\" + sign if sign in "[]\\" or self.chance.random() < 0.05 else sign
        return signs

    def line(self, kinds):
        line = ""
        marks = self.marks(kinds)
        for n in range(self.one_of([0, 1, 1, 2, 3])):
            if self.chance.random() < 0.6:
                marks = self.marks(kinds)
            line += self.one_of([self.signs(3), f"[{marks}|{self.signs(3)}]"])
        return line + (f"[{self.marks(kinds)}]" if self.chance.random() < 0.3 else "")

    def text(self):
        kinds = [self.chance.randint(1, 4) for n in range(self.one_of([0, 1, 2, 4, 4, 11]))]
        lines = ["tracked 1"]
        for n, kind in enumerate(kinds, start=1):
            author = self.number(99, ["0", "100", "01", "x", "9" * 30])
            number = str(n) if self.chance.random() < 0.99 else self.number(12, ["0", "01"])
            lines.append(f"change {number} by {author} at {self.one_of(['0', '7', '1' * 40])} {WORDS[kind - 1]}")
        lines.append("text")
        lines += [self.line(kinds) for n in range(self.one_of([1, 1, 2, 3, 5]))]
        return "".join(line + "\n" for line in lines)

    def spoilt(self, text):
        told = numbers(text)
        for n in range(self.one_of([1, 1, 1, 2, 4])):
            at = self.chance.randint(0, len(told))
            fresh = self.one_of(numbers("[]|\\ \n\n#a+-*:019xt") + [9, 31, 32, 126, 127, 0, -1, 10 ** 18, -10 ** 18])
            told[at:at + self.one_of([0, 1, 1, 2])] = self.one_of([[], [fresh], [fresh]])
        return told

    def cut_short(self, text):
        lines = text.splitlines(keepends=True)
        return "".join(lines[:self.chance.randint(0, len(lines))])

    def told(self, held):
        way = self.chance.random()
        if way < 0.1:
            return self.one_of([EXAMPLE, OTHER_EXAMPLE, KINDS + "\n"])
        if way < 0.2:
            return held
        text = self.text()
        if way < 0.65:
            return text
        return self.spoilt(text) if way < 0.9 else self.cut_short(text)

    def calls(self):
        slow = SlowDesk()
        calls = []
        for n in range(self.chance.randint(1, 15)):
            call = self.one_of([0, 0, 1, 1, 3, 3, 4, 4, 5, 5])
            if call == 5:
                i = self.chance.randint(-1, 2)
                calls.append([5, i, i + self.chance.randint(0, 3)])
            else:
                held = form_of(slow.table, slow.pieces)
                calls.append(with_text(call, self.told(held)))
            calls.append([2])
            slow.answer(calls[-2])
        return calls


class ReferenceTest(unittest.TestCase):
    def test_calls_from_seeds(self):
        seen = {}
        for seed in range(500):
            calls = Maker(seed).calls()
            slow = SlowDesk()
            expected = [slow.answer(call) for call in calls]
            given = cut_answers(answers([number for call in calls for number in call]))
            for call, told, right in zip(calls, given, expected, strict=True):
                self.assertEqual(told, right, (seed, call))
                key = (call[0], right[-1] if call[0] in (0, 1, 4) else min(right[0], 1))
                seen[key] = seen.get(key, 0) + 1
        # The seeds are worth something only if they bring about every sort of answer.
        wanted = [(call, reason) for call in (0, 1, 4) for reason in range(8)] + [(1, 8)]
        wanted += [(3, -1), (3, 0), (3, 1), (5, -3), (5, -1), (5, 0), (5, 1)]
        self.assertEqual([key for key in wanted if key not in seen], [])
