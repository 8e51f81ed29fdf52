import random
import unittest

from helper import LANG, SIZE, drawn_book, drawn_panel, drawn_set, members_of, plain_of, set_of, states_of
from manyleaf.book import Book, gathered
from manyleaf.outline import outline
from manyleaf.panel import Panel

PANEL = Panel([LANG, SIZE], [{"lang": ["de"], "size": ["small"]}])


def outline_by_words(states, choices, parent="", depth=1):
    """Point 50 by its words, states being the records of each choice."""
    entries = []
    keys = {(record[2], name, record[0]) for number in choices for name,
            record in states[number].items() if record[1] == parent}
    for rank, name, kind in sorted(keys):
        having = [number for number in choices if states[number].get(name, ())[:3] == (kind, parent, rank)]
        contents = []
        for number in having:
            content = states[number][name][3]
            if content not in [other for numbers, other in contents]:
                contents.append((set_of(one for one in having if states[one][name][3] == content), content))
        entries.append((depth, name, kind, rank, set_of(having), contents))
        entries += outline_by_words(states, having, name, depth + 1)
    return entries


def sample():
    return gathered(PANEL, [
        (0b000001, plain_of({"a": ("chapter", "", 1, "A"), "ab": ("para", "a", 0, "x")})),
        (0b000010, plain_of({"a": ("chapter", "", 1, "B"), "ab": ("para", "", 1, "x")})),
        (0b000100, plain_of({"a": ("para", "", 1, "A"), "b": ("chapter", "", 0, ""), "ab": ("para", "b", 0, "x")})),
        (0b001000, plain_of({"a": ("chapter", "", 2, "A"), "ab": ("para", "a", 0, "y")})),
        (0b110000, plain_of({"a": ("chapter", "", 1, "A"), "ab": ("para", "a", 0, "x"), "abc": ("para", "a", 0, "")})),
    ])


class Told(unittest.TestCase):
    def test_the_sample(self):
        self.assertEqual(outline(sample(), 0b011111), [
            (1, "b", "chapter", 0, 0b000100, [(0b000100, "")]),
            (2, "ab", "para", 0, 0b000100, [(0b000100, "x")]),
            (1, "a", "chapter", 1, 0b010011, [(0b010001, "A"), (0b000010, "B")]),
            (2, "ab", "para", 0, 0b010001, [(0b010001, "x")]),
            (2, "abc", "para", 0, 0b010000, [(0b010000, "")]),
            (1, "a", "para", 1, 0b000100, [(0b000100, "A")]),
            (1, "ab", "para", 1, 0b000010, [(0b000010, "x")]),
            (1, "a", "chapter", 2, 0b001000, [(0b001000, "A")]),
            (2, "ab", "para", 0, 0b001000, [(0b001000, "y")]),
        ])

    def test_barred_choices_do_not_count(self):
        self.assertEqual(outline(sample(), 0b111111), outline(sample(), 0b011111))
        self.assertEqual(outline(sample(), 0b100001), outline(sample(), 0b000001))

    def test_within_no_allowed_choice(self):
        self.assertEqual(outline(sample(), 0), [])
        self.assertEqual(outline(sample(), 0b100000), [])

    def test_a_book_with_nothing(self):
        self.assertEqual(outline(Book(PANEL), 0b111111), [])

    def test_the_kinds_of_what_is_told(self):
        told = outline(sample(), 0b011111)
        self.assertIs(type(told), list)
        for entry in told:
            self.assertEqual([type(thing) for thing in entry], [int, str, str, int, int, list])
            self.assertTrue(all(type(pair) is tuple for pair in entry[5]))

    def test_what_was_told_is_the_askers_own(self):
        book = sample()
        told = outline(book, 0b011111)
        told[0][5].clear()
        told.clear()
        self.assertEqual(outline(book, 0b011111), outline(sample(), 0b011111))

    def test_contents_are_ordered_by_the_least_choice_within(self):
        plains = [plain_of({"a": ("para", "", 0, text)}) for text in "xy"]
        book = gathered(PANEL, [(0b000101, plains[0]), (0b011010, plains[1])])
        self.assertEqual(outline(book, 0b011110)[0][5], [(0b011010, "y"), (0b000100, "x")])

    def test_a_deep_tree(self):
        names = [f"n{number}" for number in range(1500)]
        records = {name: ("chapter", parent, 0, "") for name, parent in zip(names, [""] + names)}
        told = outline(gathered(PANEL, [(0b011111, plain_of(records))]), 0b011111)
        self.assertEqual([entry[:2] for entry in told], [(depth, name) for depth, name in enumerate(names, 1)])


class Drawn(unittest.TestCase):
    def test_by_the_words_of_the_point(self):
        rng = random.Random(13)
        for _ in range(200):
            panel = drawn_panel(rng)
            book = drawn_book(rng, panel)
            within = drawn_set(rng, panel)
            choices = members_of(within & panel.allowed())
            told = outline(book, within)
            self.assertEqual(told, outline_by_words(states_of(book), choices))
            for number in choices:
                lines = []
                for depth, name, kind, rank, having, contents in told:
                    if having >> number & 1:
                        own = [content for numbers, content in contents if numbers >> number & 1]
                        self.assertEqual(len(own), 1)
                        lines.append((depth, name, kind, rank, own[0]))
                self.assertEqual(lines, book.plain(number).lines())

    def test_entries_of_one_name_have_no_choice_in_common(self):
        rng = random.Random(14)
        for _ in range(100):
            panel = drawn_panel(rng)
            book = drawn_book(rng, panel)
            met = {}
            for depth, name, kind, rank, having, contents in outline(book, panel.all_choices()):
                self.assertNotEqual(having, 0)
                self.assertEqual(having & met.get(name, 0), 0)
                met[name] = met.get(name, 0) | having
                self.assertEqual(sum(numbers for numbers, content in contents), having)
            self.assertEqual(met, {name: book.where(name) for name in book.names()})


if __name__ == "__main__":
    unittest.main()
