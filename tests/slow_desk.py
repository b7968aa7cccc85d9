"""A second, slow reading of the document, to hold the program's answers against."""

import itertools
import re

from tests.helper import numbers

NUMERAL = "(0|[1-9][0-9]*)"
CHANGE = re.compile(f"change {NUMERAL} by {NUMERAL} at {NUMERAL} (put|cut|paint|move)")
CHANGE_SHAPE = re.compile("change [^ ]* by [^ ]* at [^ ]* (put|cut|paint|move)")
SIGN = r"(?:[^\[\]\\]|\\.)"
MARKS = r"[^\[\]|\\]*"
PARAGRAPH = re.compile(rf"(?:{SIGN}|\[{MARKS}\|{SIGN}*\])*(?:\[{MARKS}\])?")
TOKEN = re.compile(rf"\[({MARKS})\|({SIGN}*)\]|\[({MARKS})\]|({SIGN})")
ITEM = re.compile(rf"(?:[abcd]|[+#-]|\*{NUMERAL}:[abcd]){NUMERAL}")
WORDS = ["put", "cut", "paint", "move"]
PLAIN = ((0, 0, 0, 0), (), (), (), ())


class Fault(Exception):
    pass


def check(is_right, line, reason):
    if not is_right:
        raise Fault(line, reason)


def document_of(text):
    """The table and the pieces that a text tells; raises Fault."""
    lines = "".join(chr(n) if n == 10 or 32 <= n <= 126 else "\x00" for n in text).split("\n")
    ended = len(lines) - 1
    if lines[-1] == "":
        lines.pop()
    table = []
    pieces = []
    seen_text = False
    for number, line in enumerate(lines, start=1):
        check(number <= ended and "\x00" not in line, number, 1)
        if number == 1:
            check(line == "tracked 1", number, 2)
        elif seen_text:
            pieces += paragraph_of(line, number, table, number == len(lines))
        elif line == "text":
            seen_text = True
        else:
            table.append(change_of(line, number, len(table) + 1))
    check(pieces, len(lines) + 1, 7)
    return table, pieces


def change_of(line, number, due):
    check(CHANGE_SHAPE.fullmatch(line), number, 2)
    match = CHANGE.fullmatch(line)
    check(match, number, 3)
    check(match[1] == str(due) and match[2] in [str(n) for n in range(1, 100)], number, 4)
    return int(match[2]), match[3], WORDS.index(match[4]) + 1


def paragraph_of(line, number, table, is_last):
    check(PARAGRAPH.fullmatch(line), number, 2)
    tokens = [match.groups() for match in TOKEN.finditer(line)]
    all_marks = [inner or end or "" for inner, signs, end, sign in tokens]
    all_items = [marks.split(" ") if marks else [] for marks in all_marks]
    check(all(ITEM.fullmatch(item) for items in all_items for item in items), number, 3)
    check(all(in_range(item, len(table)) for items in all_items for item in items), number, 4)
    for items in all_items:
        keys = [item[0] if item[0] in "abcd" else re.sub("([abcd]).*", "\\1", item) for item in items]
        check(len(set(keys)) == len(keys), number, 5)
        check(all(of_kind(item, table) for item in items), number, 5)
    pieces = []
    end = PLAIN
    for (inner, signs, end_marks, sign), items in zip(tokens, all_items):
        if end_marks is not None:
            end = dress_of(items)
        for one in re.findall(SIGN, signs or sign or ""):
            pieces.append((ord(one[-1]), dress_of(items)))
    check(not (is_last and (end[1] or end[2])), number, 6)
    return pieces + [(10, end)]


def in_range(item, count):
    told = [int(digits) for digits in re.findall("[0-9]+", item)]
    if item[0] == "#":
        return 1 <= told[0] <= 999
    if item[0] in "abcd":
        return told[0] <= 99
    return 1 <= told[0] <= count and (item[0] != "*" or told[1] <= 99)


def of_kind(item, table):
    allowed = {"+": (1, 4), "-": (2, 4), "*": (3,)}.get(item[0])
    return allowed is None or table[int(re.search("[0-9]+", item)[0]) - 1][2] in allowed


def dress_of(items):
    look = [0, 0, 0, 0]
    lists = {"+": [], "-": [], "*": [], "#": []}
    for item in items:
        if item[0] in "abcd":
            look["abcd".index(item[0])] = int(item[1:])
        elif item[0] == "*":
            change, told = item[1:].split(":")
            lists["*"].append((int(change), "abcd".index(told[0]), int(told[1:])))
        else:
            lists[item[0]].append(int(item[1:]))
    return tuple(look), tuple(lists["+"]), tuple(lists["-"]), tuple(lists["*"]), tuple(sorted(lists["#"]))


def marks_of(dress):
    look, insertions, deletions, pending, tags = dress
    items = [letter + str(value) for letter, value in zip("abcd", look) if value]
    items += [f"+{change}" for change in insertions] + [f"-{change}" for change in deletions]
    items += [f"*{change}:{'abcd'[place]}{value}" for change, place, value in pending]
    return " ".join(items + [f"#{tag}" for tag in tags])


def paragraphs_of(pieces):
    paragraphs = [[]]
    for piece in pieces:
        paragraphs[-1].append(piece)
        if piece[0] == 10:
            paragraphs.append([])
    return paragraphs[:-1]


def form_of(table, pieces):
    lines = ["tracked 1"]
    lines += [f"change {n} by {by} at {at} {WORDS[kind - 1]}" for n, (by, at, kind) in enumerate(table, start=1)]
    lines.append("text")
    for paragraph in paragraphs_of(pieces):
        line = ""
        for dress, run in itertools.groupby(paragraph[:-1], key=lambda piece: piece[1]):
            signs = re.sub(r"([\[\]\\])", r"\\\1", "".join(chr(sign) for sign, worn in run))
            line += signs if dress == PLAIN else f"[{marks_of(dress)}|{signs}]"
        end = paragraph[-1][1]
        lines.append(line if end == PLAIN else f"{line}[{marks_of(end)}]")
    return "".join(line + "\n" for line in lines)


def renamed(piece, new):
    sign, (look, insertions, deletions, pending, tags) = piece
    return sign, (look, tuple(map(new, insertions)), tuple(map(new, deletions)),
                  tuple((new(n), place, value) for n, place, value in pending), tags)


def named_in(dress):
    return [*dress[1], *dress[2], *[change for change, place, value in dress[3]]]


def look_as_shown(dress):
    look = []
    for place in range(4):
        values = [value for change, changed, value in dress[3] if changed == place]
        look.append(values[-1] if values else dress[0][place])
    return tuple(look)


class SlowDesk:
    def __init__(self):
        self.table = []
        self.pieces = [(10, PLAIN)]

    def answer(self, call):
        if call[0] in (0, 1, 3, 4):
            return self.take_text(call[0], call[2:])
        ways = {2: self.form, 5: self.part, 6: self.tidy, 7: self.settle, 8: self.plain, 9: self.list_pieces,
                10: self.list_table, 11: self.list_paragraphs}
        return ways[call[0]](*call[1:])

    def take_text(self, call, text):
        try:
            table, pieces = document_of(text)
        except Fault as fault:
            return [-1] if call == 3 else list(fault.args)
        if call == 3:
            return [int((table, pieces) == (self.table, self.pieces))]
        if call == 4:
            by = len(self.table)
            pieces = self.pieces + [renamed(piece, lambda n: n + by) for piece in pieces]
            table = self.table + table
        if call == 1:
            lines = zip("".join(map(chr, text)).split("\n"), form_of(table, pieces).split("\n"), strict=True)
            apart = [n for n, (told, written) in enumerate(lines, start=1) if told != written]
            if apart:
                return [apart[0], 8]
        self.table = table
        self.pieces = pieces
        return [0, 0]

    def form(self):
        form = form_of(self.table, self.pieces)
        return [len(form)] + numbers(form)

    def part(self, i, j):
        paragraphs = paragraphs_of(self.pieces)
        if not 0 <= i < j <= len(paragraphs):
            return [-1]
        end = paragraphs[j - 1][-1][1]
        if end[1] or end[2]:
            return [-3]
        before = len(self.pieces)
        self.pieces = [piece for paragraph in paragraphs[i:j] for piece in paragraph]
        return [before - len(self.pieces)]

    def tidy(self):
        named = sorted({n for sign, dress in self.pieces for n in named_in(dress)})
        went = len(self.table) - len(named)
        self.table = [self.table[n - 1] for n in named]
        self.pieces = [renamed(piece, lambda n: named.index(n) + 1) for piece in self.pieces]
        return [went]

    def settle(self, w):
        if w not in (1, 2):
            return [-2]
        before = len(self.pieces)
        kept = self.pieces_for(w)
        looks = [look_as_shown(dress) if w == 1 else dress[0] for sign, dress in kept]
        self.pieces = [(sign, (look, (), (), (), dress[4])) for (sign, dress), look in zip(kept, looks)]
        return [before - len(self.pieces)]

    def pieces_for(self, w):
        empty_list = {1: 2, 2: 1}
        return [piece for piece in self.pieces if w == 0 or piece[1][empty_list[w]] == ()]

    def plain(self, w):
        if w not in (0, 1, 2):
            return [-2]
        signs = [sign for sign, dress in self.pieces_for(w)]
        return [len(signs)] + signs

    def list_pieces(self):
        told = [len(self.pieces)]
        for sign, (look, insertions, deletions, pending, tags) in self.pieces:
            told += [sign, *look, len(insertions), *insertions, len(deletions), *deletions]
            told += [len(pending), *itertools.chain(*pending), len(tags), *tags]
        return told

    def list_table(self):
        return [len(self.table)] + [number for by, at, kind in self.table for number in (by, int(at), kind)]

    def list_paragraphs(self):
        lengths = [len(paragraph) for paragraph in paragraphs_of(self.pieces)]
        return [len(lengths)] + lengths
