"""Calls made from seeds, for the tests that need many."""

import random

from tests.helper import EXAMPLE, KINDS, NO_WAYS, OTHER_EXAMPLE, numbers, with_text
from tests.slow_desk import WORDS, SlowDesk, form_of


class Maker:
    """Makes calls from a seed: texts that are right, nearly right, and wrong."""

    def __init__(self, seed):
        self.chance = random.Random(seed)

    def one_of(self, choices):
        return choices[self.chance.randrange(len(choices))]

    def number(self, usual, odd):
        return str(self.chance.randint(1, max(usual, 1))) if self.chance.random() < 0.97 else self.one_of(odd)

    def item(self, kinds):
        mark = self.one_of("aabcd+++---***##")
        odd = ["0", "00", "01", "99", "100", "999", "1000", "", "5", "1" * 20]
        if mark == "#":
            return mark + self.number(12, odd)
        if mark in "abcd":
            return mark + self.one_of(["0", "1", "2", self.number(99, odd)])
        going = {"+": "14", "-": "24", "*": "3"}[mark]
        fitting = [n for n, kind in enumerate(kinds, start=1) if str(kind) in going]
        if not fitting and self.chance.random() < 0.95:
            return "c" + self.number(3, odd)
        change = str(self.one_of(fitting)) if fitting and self.chance.random() < 0.97 else self.number(len(kinds), odd)
        return mark + change + (f":{self.one_of('abcd')}{self.number(3, odd)}" if mark == "*" else "")

    def marks(self, kinds):
        items = [self.item(kinds) for n in range(self.one_of([0, 1, 1, 1, 2, 2, 3, 5]))]
        if self.chance.random() < 0.2:
            items += self.looks_of_one_property(kinds)
        if self.chance.random() < 0.9:
            items = list({item.rstrip("0123456789") if item[0] in "abcd*" else item: item for item in items}.values())
        return " ".join(items)

    def looks_of_one_property(self, kinds):
        letter = self.one_of("abcd")
        looks = [f"*{n}:{letter}{self.chance.randint(0, 9)}" for n, kind in enumerate(kinds, start=1) if kind == 3]
        self.chance.shuffle(looks)
        return looks

    def signs(self, most):
        signs = ""
        for n in range(self.chance.randint(0, most)):
            sign = self.one_of("aab |#+:1~[]\\")
            signs += "\\" + sign if sign in "[]\\" or self.chance.random() < 0.05 else sign
        return signs

    def line(self, kinds):
        line = ""
        marks = self.marks(kinds)
        for n in range(self.one_of([0, 1, 1, 2, 3])):
            if self.chance.random() < 0.6:
                marks = self.marks(kinds)
            line += self.one_of([self.signs(3), f"[{marks}|{self.signs(3)}]"])
        return line + (f"[{self.marks(kinds)}]" if self.chance.random() < 0.3 else "")

    def text(self):
        kinds = [self.chance.randint(1, 4) for n in range(self.one_of([0, 1, 2, 4, 4, 11]))]
        lines = ["tracked 1"]
        for n, kind in enumerate(kinds, start=1):
            author = self.number(99, ["0", "100", "01", "x", "9" * 30])
            number = str(n) if self.chance.random() < 0.99 else self.number(12, ["0", "01"])
            lines.append(f"change {number} by {author} at {self.one_of(['0', '7', '1' * 40])} {WORDS[kind - 1]}")
        lines.append("text")
        lines += [self.line(kinds) for n in range(self.one_of([1, 1, 2, 3, 5]))]
        return "".join(line + "\n" for line in lines)

    def spoilt(self, text):
        told = numbers(text)
        for n in range(self.one_of([1, 1, 1, 2, 4])):
            at = self.chance.randint(0, len(told))
            fresh = self.one_of(numbers("[]|\\ \n\n#a+-*:019xt") + [9, 31, 32, 126, 127, 0, -1, 10 ** 18, -10 ** 18])
            told[at:at + self.one_of([0, 1, 1, 2])] = self.one_of([[], [fresh], [fresh]])
        return told

    def cut_short(self, text):
        lines = text.splitlines(keepends=True)
        return "".join(lines[:self.chance.randint(0, len(lines))])

    def told(self, held):
        way = self.chance.random()
        if way < 0.1:
            return self.one_of([EXAMPLE, OTHER_EXAMPLE, KINDS + "\n"])
        if way < 0.2:
            return held
        text = self.text()
        if way < 0.65:
            return text
        return self.spoilt(text) if way < 0.9 else self.cut_short(text)

    def call(self, held):
        call = self.one_of([0, 0, 1, 1, 3, 3, 4, 4, 4, 5, 5, 6, 6, 7, 7, 8])
        if call == 5:
            i = self.chance.randint(-1, 2)
            return [5, i, i + self.chance.randint(0, 3)]
        if call == 6:
            return [6]
        if call in (7, 8):
            return [call, self.one_of([0, 1, 1, 1, 2, 2, 2, self.one_of(NO_WAYS)])]
        return with_text(call, self.told(held))

    def calls(self):
        """Calls that change the document held, or may; it depends on what is held which ones they are."""
        slow = SlowDesk()
        calls = []
        for n in range(self.chance.randint(1, 15)):
            calls.append(self.call(form_of(slow.table, slow.pieces)))
            slow.answer(calls[-1])
        return calls
