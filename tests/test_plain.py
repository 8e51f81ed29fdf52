import random
import unittest

from helper import NAMES, drawn_plain, records_of
from manyleaf.errors import NoPart
from manyleaf.plain import Plain


def sample():
    plain = Plain()
    plain.lay("z", "para", "", 0, "last name, first rank")
    plain.lay("b", "chapter", "", 5, "Two")
    plain.lay("a", "chapter", "", 5, "One")
    plain.lay("a.2", "para", "a", 1, "deep")
    plain.lay("a.10", "table", "a", 1, (("1", "2"),))
    plain.lay("a.1", "chapter", "a", 0, "")
    plain.lay("x", "para", "a.1", 10 ** 9, "deeper")
    plain.lay("b.1", "para", "b", 3, " ")
    return plain


LINES = [
    (1, "z", "para", 0, "last name, first rank"), (1, "a", "chapter", 5, "One"), (2, "a.1", "chapter", 0, ""),
    (3, "x", "para", 10 ** 9, "deeper"), (2, "a.10", "table", 1, (("1", "2"),)), (2, "a.2", "para", 1, "deep"),
    (1, "b", "chapter", 5, "Two"), (2, "b.1", "para", 3, " "),
]


def lines_by_words(records, parent="", depth=1):
    """Point 33, word by word."""
    lines = []
    here = [name for name in records if records[name][1] == parent]
    for name in sorted(here, key=lambda name: (records[name][2], name)):
        kind, _, rank, content = records[name]
        lines.append((depth, name, kind, rank, content))
        lines += lines_by_words(records, name, depth + 1)
    return lines


class Reading(unittest.TestCase):
    def test_a_book_without_parts(self):
        plain = Plain()
        self.assertEqual((plain.names(), plain.lines(), plain.under(""), plain.beneath("")), ([], [], [], []))
        self.assertIs(plain.has("a"), False)
        self.assertIs(plain.has(""), False)

    def test_the_sample(self):
        plain = sample()
        self.assertEqual(plain.lines(), LINES)
        self.assertEqual(plain.names(), ["a", "a.1", "a.10", "a.2", "b", "b.1", "x", "z"])
        self.assertEqual(plain.under(""), ["z", "a", "b"])
        self.assertEqual(plain.under("a"), ["a.1", "a.10", "a.2"])
        self.assertEqual(plain.under("x"), [])
        self.assertEqual(plain.beneath("a"), ["a.1", "x", "a.10", "a.2"])
        self.assertEqual(plain.beneath("b.1"), [])
        self.assertEqual(plain.beneath(""), [line[1] for line in LINES])
        self.assertEqual(plain.state("a.10"), ("table", "a", 1, (("1", "2"),)))
        self.assertEqual(plain.kind_of("a.10"), "table")
        self.assertEqual(plain.parent_of("a.10"), "a")
        self.assertEqual(plain.rank_of("a.10"), 1)
        self.assertEqual(plain.content_of("a.10"), (("1", "2"),))
        self.assertIs(plain.has("a.10"), True)
        self.assertIs(plain.has("a.11"), False)
        self.assertIs(plain.has(""), False)

    def test_drawn_books(self):
        rng = random.Random(7)
        for _ in range(300):
            plain = drawn_plain(rng, most=10)
            records = records_of(plain)
            self.assertEqual(plain.lines(), lines_by_words(records))
            self.assertEqual(plain.names(), sorted(records))
            self.assertEqual(plain.beneath(""), [line[1] for line in plain.lines()])
            for name in [""] + plain.names():
                expected = lines_by_words(records, name)
                self.assertEqual(plain.beneath(name), [line[1] for line in expected])
                self.assertEqual(plain.under(name), [line[1] for line in expected if line[0] == 1])

    def test_a_deep_tree(self):
        plain = Plain()
        names = [f"n{number}" for number in range(3000)]
        for name, parent in zip(names, [""] + names):
            plain.lay(name, "chapter", parent, 0, "")
        self.assertEqual(plain.beneath(""), names)
        self.assertEqual(plain.beneath("n10"), names[11:])
        self.assertEqual([line[0] for line in plain.lines()], list(range(1, 3001)))
        plain.drop("n5")
        self.assertEqual(plain.names(), sorted(names[:5]))


class NotThere(unittest.TestCase):
    def refused(self, asked, name):
        with self.subTest(asked=asked, name=name):
            with self.assertRaises(NoPart) as caught:
                asked(name)
            self.assertIs(type(caught.exception), NoPart)
            self.assertEqual((caught.exception.part, caught.exception.choice), (name, None))

    def test_names_that_are_not_there(self):
        for plain in (Plain(), sample()):
            for name in ("q", "a.", "a.11", "zz"):
                for asked in (plain.state, plain.kind_of, plain.parent_of, plain.rank_of, plain.content_of, plain.under,
                              plain.beneath, plain.drop):
                    self.refused(asked, name)

    def test_the_top_is_no_part(self):
        for plain in (Plain(), sample()):
            before = records_of(plain)
            for asked in (plain.state, plain.kind_of, plain.parent_of, plain.rank_of, plain.content_of, plain.drop):
                self.refused(asked, "")
            self.assertEqual(records_of(plain), before)


class Changing(unittest.TestCase):
    def test_laying_anew(self):
        plain = sample()
        self.assertIsNone(plain.lay("x", "table", "b", 2, (("t",),)))
        self.assertEqual(plain.state("x"), ("table", "b", 2, (("t",),)))
        self.assertEqual(plain.under("b"), ["x", "b.1"])
        self.assertEqual(plain.beneath("a"), ["a.1", "a.10", "a.2"])
        self.assertEqual(len(plain.names()), 8)

    def test_dropping_with_all_beneath(self):
        plain = sample()
        self.assertIsNone(plain.drop("a"))
        self.assertEqual(plain.names(), ["b", "b.1", "z"])
        self.assertEqual(plain.lines(), [LINES[0]] + LINES[6:])
        plain.drop("b.1")
        self.assertEqual(plain.names(), ["b", "z"])
        self.assertIs(plain.has("a.1"), False)

    def test_dropping_in_drawn_books(self):
        rng = random.Random(8)
        for _ in range(200):
            plain = drawn_plain(rng, most=10)
            if not plain.names():
                continue
            before = records_of(plain)
            name = rng.choice(plain.names())
            gone = [name] + plain.beneath(name)
            plain.drop(name)
            self.assertEqual(records_of(plain), {key: record for key, record in before.items() if key not in gone})

    def test_records_that_make_no_tree(self):
        plain = Plain()
        plain.lay("a", "chapter", "b", 0, "")
        plain.lay("b", "chapter", "a", 1, "")
        plain.lay("c", "para", "gone", 2, "text")
        plain.lay("d", "para", "c", 3, "beneath a paragraph")
        plain.lay("e", "chapter", "e", 4, "its own parent")
        self.assertEqual(plain.names(), ["a", "b", "c", "d", "e"])
        self.assertEqual(plain.state("a"), ("chapter", "b", 0, ""))
        self.assertEqual((plain.kind_of("d"), plain.parent_of("d"), plain.rank_of("d"), plain.content_of("d")),
                         ("para", "c", 3, "beneath a paragraph"))
        self.assertIs(plain.has("e"), True)
        self.assertIs(plain.has("gone"), False)
        other = plain.copied()
        self.assertIs(plain.same(other), True)
        other.lay("e", "chapter", "", 4, "its own parent")
        self.assertIs(plain.same(other), False)
        self.assertEqual(plain.parent_of("e"), "e")


class Copying(unittest.TestCase):
    def test_a_copy_is_its_own(self):
        plain = sample()
        copy = plain.copied()
        self.assertIs(type(copy), Plain)
        self.assertEqual(copy.lines(), LINES)
        copy.drop("a")
        copy.lay("new", "para", "", 0, "")
        self.assertEqual(plain.lines(), LINES)
        again = plain.copied()
        plain.drop("b")
        self.assertEqual(again.lines(), LINES)

    def test_two_books_share_nothing(self):
        one, other = Plain(), Plain()
        one.lay("a", "para", "", 0, "")
        self.assertEqual(other.names(), [])

    def test_lists_that_were_told_are_the_askers_own(self):
        plain = sample()
        for asked in (plain.names, plain.lines, lambda: plain.under("a"), lambda: plain.beneath("")):
            first = asked()
            before = list(first)
            first.clear()
            self.assertEqual(asked(), before)
        self.assertEqual(plain.lines(), LINES)

    def test_sameness(self):
        self.assertIs(Plain().same(Plain()), True)
        self.assertIs(sample().same(sample()), True)
        self.assertIs(sample().same(Plain()), False)
        self.assertIs(Plain().same(sample()), False)
        backwards = Plain()
        for name in reversed(sample().names()):
            backwards.lay(name, *sample().state(name))
        self.assertIs(backwards.same(sample()), True)

    def test_one_thing_in_one_record_makes_books_unlike(self):
        for record in (("chapter", "a", 1, "deep"), ("para", "b", 1, "deep"), ("para", "a", 2, "deep"),
                       ("para", "a", 1, "Deep")):
            other = sample()
            other.lay("a.2", *record)
            self.assertIs(sample().same(other), False)
            self.assertIs(other.same(sample()), False)
        for name in NAMES:
            other = sample()
            if not other.has(name):
                other.lay(name, "para", "", 0, "")
                self.assertIs(sample().same(other), False)


if __name__ == "__main__":
    unittest.main()
