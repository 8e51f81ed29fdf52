import random
import re
import unittest

from helper import LANG, SIZE, drawn_book, drawn_panel, drawn_set, members_of, plain_of, records_of, small_panels
from manyleaf.book import Book, gathered
from manyleaf.conds import deciding, read_cond, tell_cond
from manyleaf.errors import NoChoice
from manyleaf.outline import outline
from manyleaf.panel import Panel
from manyleaf.views import View

PANEL = Panel([LANG, SIZE], [{"lang": ["de"], "size": ["small"]}])


def sample():
    return gathered(PANEL, [
        (0b000001, plain_of({"a": ("chapter", "", 1, "A"), "p": ("para", "a", 0, "x"), "s": ("para", "", 9, "same")})),
        (0b000010, plain_of({"a": ("chapter", "", 1, "B"), "s": ("para", "", 9, "same")})),
        (0b011100, plain_of({"a": ("chapter", "", 1, "B"), "p": ("para", "", 0, "x"), "s": ("para", "", 9, "same")})),
    ])


class Opening(unittest.TestCase):
    def test_no_allowed_choice(self):
        for within in (0, 0b100000):
            with self.assertRaises(NoChoice) as caught:
                View(sample(), within)
            self.assertIs(type(caught.exception), NoChoice)
        self.assertEqual(View(sample(), 0b100001).switches_open(), [])

    def test_a_book_with_nothing(self):
        for panel in small_panels():
            view = View(Book(panel), panel.all_choices())
            self.assertEqual((view.lines(), view.shared(), view.apart()), ([], [], []))


class Lines(unittest.TestCase):
    def test_by_hand(self):
        self.assertEqual(View(sample(), 0b111111).lines(), [
            (1, "p", "para", 0, "lang=fr,de", [("*", "x")]),
            (1, "a", "chapter", 1, "*", [("lang=en&size=big", "A"), ("lang=en&size=small|lang=fr,de", "B")]),
            (2, "p", "para", 0, "lang=en&size=big", [("*", "x")]),
            (1, "s", "para", 9, "*", [("*", "same")]),
        ])
        self.assertEqual(View(sample(), 0b000011).lines(), [
            (1, "a", "chapter", 1, "*", [("size=big", "A"), ("size=small", "B")]),
            (2, "p", "para", 0, "size=big", [("*", "x")]),
            (1, "s", "para", 9, "*", [("*", "same")]),
        ])
        self.assertEqual(View(sample(), 0b000001).lines()[1], (2, "p", "para", 0, "*", [("*", "x")]))

    def test_drawn_views(self):
        rng = random.Random(20)
        for _ in range(150):
            panel = drawn_panel(rng)
            book = drawn_book(rng, panel)
            within = drawn_set(rng, panel)
            if within & panel.allowed() == 0:
                self.assertRaises(NoChoice, View, book, within)
                continue
            lines = View(book, within).lines()
            self.by_the_outline(book, within, lines)
            for number in members_of(within & panel.allowed()):
                self.assertEqual(seen_by(panel, lines, number), book.plain(number).lines())

    def by_the_outline(self, book, within, lines):
        panel = book.panel
        above = {0: within & panel.allowed()}
        entries = outline(book, within)
        self.assertEqual(len(entries), len(lines))
        for entry, line in zip(entries, lines):
            depth, name, kind, rank, choices, contents = entry
            conds = [(tell_cond(panel, having, choices), content) for having, content in contents]
            self.assertEqual(line, (depth, name, kind, rank, tell_cond(panel, choices, above[depth - 1]), conds))
            few = deciding(panel, choices, above[depth - 1])
            self.assertEqual(set(re.findall(r"(\w+)=", line[4])), set(few))
            above[depth] = choices


def seen_by(panel, lines, number):
    """The lines of a view as one choice takes them, by their conditions alone."""
    seen, taken = [], {0: True}
    for depth, name, kind, rank, cond, contents in lines:
        taken[depth] = taken[depth - 1] and bool(read_cond(panel, cond) >> number & 1)
        if taken[depth]:
            own = [content for part, content in contents if read_cond(panel, part) >> number & 1]
            assert len(own) == 1
            seen.append((depth, name, kind, rank, own[0]))
    return seen


class SharedAndApart(unittest.TestCase):
    def test_by_hand(self):
        view = View(sample(), 0b111111)
        self.assertEqual(view.shared(), ["s"])
        self.assertEqual(view.apart(), [("a", 0, 1), ("p", 0, 1)])
        view = View(sample(), 0b001110)
        self.assertEqual(view.shared(), ["a", "s"])
        self.assertEqual(view.apart(), [("p", 1, 2)])
        view = View(sample(), 0b001100)
        self.assertEqual(view.shared(), ["a", "p", "s"])
        self.assertEqual(view.apart(), [])
        view = View(sample(), 0b000010)
        self.assertEqual(view.shared(), ["a", "s"])
        self.assertEqual(view.apart(), [])

    def test_drawn_views(self):
        rng = random.Random(21)
        for _ in range(200):
            panel = drawn_panel(rng)
            book = drawn_book(rng, panel)
            choices = members_of(drawn_set(rng, panel) & panel.allowed()) or members_of(panel.allowed())
            view = View(book, sum(2 ** number for number in choices))
            states = {number: records_of(book.plain(number)) for number in choices}
            shared, apart = [], []
            for name in sorted({name for records in states.values() for name in records}):
                unlike = [number for number in choices if states[number].get(name) != states[choices[0]].get(name)]
                if unlike:
                    apart.append((name, choices[0], unlike[0]))
                else:
                    shared.append(name)
            self.assertEqual(view.shared(), shared)
            self.assertEqual(view.apart(), apart)


class Open(unittest.TestCase):
    def test_by_hand(self):
        self.assertEqual(View(sample(), 0b111111).switches_open(), ["lang", "size"])
        self.assertEqual(View(sample(), 0b000011).switches_open(), ["size"])
        self.assertEqual(View(sample(), 0b010101).switches_open(), ["lang"])
        self.assertEqual(View(sample(), 0b110000).switches_open(), [])
        self.assertEqual(View(sample(), 0b001001).switches_open(), ["lang", "size"])

    def test_drawn_views(self):
        rng = random.Random(22)
        for _ in range(100):
            panel = drawn_panel(rng)
            within = drawn_set(rng, panel) & panel.allowed() or panel.allowed()
            told = [panel.told(number) for number in members_of(within)]
            expected = [word for place,
                        (word, settings) in enumerate(panel.switches()) if len({one[place] for one in told}) > 1]
            self.assertEqual(View(Book(panel), within).switches_open(), expected)


class Kept(unittest.TestCase):
    def test_what_was_told_is_the_askers_own(self):
        view = View(sample(), 0b111111)
        for asked in (view.lines, view.shared, view.apart, view.switches_open):
            first = asked()
            first.clear()
            self.assertNotEqual(asked(), [])
        view.lines()[1][5].clear()
        self.assertEqual(view.lines(), View(sample(), 0b111111).lines())


if __name__ == "__main__":
    unittest.main()
