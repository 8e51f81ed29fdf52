import random
import unittest

from helper import (LANG, SIZE, drawn_book, drawn_panel, drawn_plain, members_of, odd_things, plain_of, records_of,
                    set_of, small_panels)
from manyleaf.book import Book, gathered
from manyleaf.errors import NoChoice, NoPart
from manyleaf.panel import Panel
from manyleaf.plain import Plain

PANEL = Panel([LANG, SIZE], [{"lang": ["de"], "size": ["small"]}])


def first():
    return plain_of({"a": ("chapter", "", 0, "One"), "p": ("para", "a", 1, "text"), "t": ("table", "", 2, (("x",),))})


def second():
    return plain_of({"a": ("chapter", "", 0, "Un"), "p": ("para", "", 1, "text")})


def third():
    return plain_of({"a": ("chapter", "b", 0, "One"), "b": ("chapter", "", 9, ""), "p": ("para", "a", 1, "texte")})


def sample():
    return gathered(PANEL, [(0b110100, third()), (0b000010, first()), (0b001001, second())])


class Refusing(unittest.TestCase):
    def no_part(self, asked, things, fields):
        with self.subTest(things):
            with self.assertRaises(NoPart) as caught:
                asked(*things)
            self.assertIs(type(caught.exception), NoPart)
            self.assertEqual((caught.exception.part, caught.exception.choice), fields)


class Nothing(Refusing):
    def test_a_book_with_nothing(self):
        for panel in small_panels():
            book = Book(panel)
            self.assertIs(book.panel, panel)
            self.assertEqual(book.names(), [])
            self.assertEqual(book.classes(), [panel.allowed()])
            self.assertTrue(book.same(Book(panel)))
            self.assertTrue(book.same(gathered(panel, [(panel.all_choices(), Plain())])))
            for number in members_of(panel.allowed()):
                self.assertEqual(book.plain(number).names(), [])
                self.no_part(book.alike, ("a", number), ("a", number))
                self.no_part(book.alike, ("", number), ("", number))
            for asked in (book.where, book.places, book.contents, book.beneath):
                for name in ("a", ""):
                    self.no_part(asked, (name,), (name, None))


class Told(Refusing):
    def test_names(self):
        self.assertEqual(sample().names(), ["a", "b", "p", "t"])

    def test_where(self):
        book = sample()
        self.assertEqual([book.where(name) for name in "abpt"], [0b011111, 0b010100, 0b011111, 0b000010])

    def test_places(self):
        book = sample()
        self.assertEqual(book.places("a"), [(0b001011, ("chapter", "", 0)), (0b010100, ("chapter", "b", 0))])
        self.assertEqual(book.places("p"), [(0b001001, ("para", "", 1)), (0b010110, ("para", "a", 1))])
        self.assertEqual(book.places("b"), [(0b010100, ("chapter", "", 9))])

    def test_contents(self):
        book = sample()
        self.assertEqual(book.contents("a"), [(0b001001, "Un"), (0b010110, "One")])
        self.assertEqual(book.contents("p"), [(0b001011, "text"), (0b010100, "texte")])
        self.assertEqual(book.contents("t"), [(0b000010, (("x",),))])

    def test_classes(self):
        self.assertEqual(sample().classes(), [0b001001, 0b000010, 0b010100])

    def test_alike(self):
        book = sample()
        self.assertEqual(book.alike("a", 0), 0b001001)
        self.assertEqual(book.alike("a", 1), 0b000010)
        self.assertEqual(book.alike("p", 2), 0b010100)
        self.no_part(book.alike, ("t", 0), ("t", 0))
        self.no_part(book.alike, ("q", 4), ("q", 4))
        self.no_part(book.alike, ("", 2), ("", 2))

    def test_beneath(self):
        book = sample()
        self.assertEqual(book.beneath("a"), [("p", 0b010110)])
        self.assertEqual(book.beneath("b"), [("a", 0b010100), ("p", 0b010100)])
        self.assertEqual(book.beneath("p"), [])
        self.assertEqual(book.beneath("t"), [])

    def test_names_that_are_not_there(self):
        book = sample()
        for asked in (book.where, book.places, book.contents, book.beneath):
            for name in ("", "q", "aa", "a.", "zz"):
                self.no_part(asked, (name,), (name, None))

    def test_plain_books(self):
        book = sample()
        for number, plain in ((0, second()), (1, first()), (2, third()), (3, second()), (4, third())):
            self.assertIs(type(book.plain(number)), Plain)
            self.assertTrue(book.plain(number).same(plain))

    def test_what_is_no_allowed_choice(self):
        book = sample()
        for thing in odd_things() + [5, 6, 7, 100, "2"]:
            with self.subTest(thing):
                self.assertRaises(NoChoice, book.plain, thing)
                self.assertRaises(NoChoice, book.alike, "a", thing)
                self.assertRaises(NoChoice, book.alike, "q", thing)
                self.assertRaises(NoChoice, book.alike, "", thing)

    def test_the_kinds_of_what_is_told(self):
        book = sample()
        for told in (book.places("a"), book.contents("a"), book.beneath("a")):
            self.assertIs(type(told), list)
            self.assertTrue(all(type(pair) is tuple and len(pair) == 2 for pair in told))
        self.assertTrue(all(type(pair[1]) is tuple and len(pair[1]) == 3 for pair in book.places("a")))


class Kept(unittest.TestCase):
    def everything(self, book):
        told = [book.names(), book.classes()]
        for name in book.names():
            told += [book.where(name), book.places(name), book.contents(name), book.beneath(name)]
            told += [book.alike(name, number) for number in members_of(book.where(name))]
        return told + [records_of(book.plain(number)) for number in members_of(book.panel.allowed())]

    def test_rows_and_plain_books_changed_afterwards_change_nothing(self):
        plains = [first(), second(), third()]
        rows = [(0b000010, plains[0]), (0b001001, plains[1]), (0b110100, plains[2])]
        book = gathered(PANEL, rows)
        self.assertEqual(rows, [(0b000010, plains[0]), (0b001001, plains[1]), (0b110100, plains[2])])
        self.assertTrue(plains[0].same(first()) and plains[1].same(second()) and plains[2].same(third()))
        before = self.everything(book)
        self.assertEqual(before, self.everything(sample()))
        plains[0].drop("a")
        plains[1].lay("new", "para", "", 0, "")
        plains[2].lay("a", "chapter", "", 1, "other")
        rows.pop()
        rows.append((0b111111, Plain()))
        self.assertEqual(self.everything(book), before)

    def test_what_was_told_is_the_askers_own(self):
        book = sample()
        before = self.everything(book)
        for told in (book.names(), book.classes(), book.places("a"), book.contents("a"), book.beneath("a")):
            told.clear()
        for number in range(5):
            plain = book.plain(number)
            plain.drop("a")
            plain.lay("new", "para", "", 0, "")
        self.assertIsNot(book.plain(0), book.plain(0))
        self.assertEqual(self.everything(book), before)

    def test_books_of_one_plain_book_share_nothing(self):
        plain = first()
        one = gathered(PANEL, [(0b011111, plain)])
        other = gathered(PANEL, [(0b011111, plain)])
        one.plain(0).drop("a")
        self.assertTrue(one.same(other))

    def test_books_that_read_alike_tell_alike(self):
        rng = random.Random(10)
        for _ in range(60):
            panel = drawn_panel(rng)
            book = drawn_book(rng, panel)
            rows = [(2 ** number, book.plain(number)) for number in members_of(panel.allowed())]
            rng.shuffle(rows)
            barred = panel.all_choices() & ~panel.allowed()
            if rng.random() < 0.5 and rows:
                rows[0] = (rows[0][0] | barred, rows[0][1])
            elif barred:
                rows.append((barred, drawn_plain(rng)))
            again = gathered(panel, rows)
            self.assertTrue(book.same(again) and again.same(book))
            self.assertEqual(self.everything(book), self.everything(again))


class Same(unittest.TestCase):
    def test_one_choice_that_reads_unlike(self):
        rng = random.Random(11)
        for _ in range(60):
            panel = drawn_panel(rng)
            book = drawn_book(rng, panel)
            numbers = members_of(panel.allowed())
            rows = [[2 ** number, book.plain(number)] for number in numbers]
            rng.choice(rows)[1].lay("odd.one", "para", "", 0, "")
            other = gathered(panel, [tuple(row) for row in rows])
            self.assertIs(book.same(other), False)
            self.assertIs(other.same(book), False)

    def test_two_books_with_like_classes_but_other_books_in_them(self):
        one = gathered(PANEL, [(0b000001, first()), (0b011110, second())])
        other = gathered(PANEL, [(0b000001, second()), (0b011110, first())])
        self.assertEqual(one.classes(), other.classes())
        self.assertIs(one.same(other), False)

    def test_a_panel_made_twice(self):
        again = Panel([LANG, SIZE], [{"lang": ["de"], "size": ["small"]}])
        book = gathered(again, [(0b110100, third()), (0b000010, first()), (0b001001, second())])
        self.assertIs(book.same(sample()), True)


class Drawn(unittest.TestCase):
    def test_all_that_is_told_choice_by_choice(self):
        rng = random.Random(12)
        for _ in range(120):
            panel = drawn_panel(rng, most=24)
            book = drawn_book(rng, panel)
            numbers = members_of(panel.allowed())
            plains = {number: book.plain(number) for number in numbers}
            states = {number: records_of(plain) for number, plain in plains.items()}
            self.assertEqual(book.names(), sorted({name for records in states.values() for name in records}))
            self.classes_are_right(book, states)
            for name in book.names():
                having = [number for number in numbers if name in states[number]]
                self.assertEqual(book.where(name), set_of(having))
                self.pairs_are_right(book.places(name), {number: states[number][name][:3] for number in having})
                self.pairs_are_right(book.contents(name), {number: states[number][name][3] for number in having})
                for number in having:
                    alike = [other for other in having if states[other][name] == states[number][name]]
                    self.assertEqual(book.alike(name, number), set_of(alike))
                below = {}
                for number in having:
                    for deeper in plains[number].beneath(name):
                        below.setdefault(deeper, []).append(number)
                self.assertEqual(book.beneath(name), [(deeper, set_of(below[deeper])) for deeper in sorted(below)])

    def classes_are_right(self, book, states):
        expected = []
        for number, records in states.items():
            alike = set_of(other for other in states if states[other] == records)
            if alike not in expected:
                expected.append(alike)
        self.assertEqual(book.classes(), expected)

    def pairs_are_right(self, pairs, things):
        expected = []
        for number, thing in things.items():
            pair = (set_of(other for other in things if things[other] == thing), thing)
            if pair not in expected:
                expected.append(pair)
        self.assertEqual(pairs, expected)


class Great(unittest.TestCase):
    def test_256_choices_and_40_parts_each_of_its_own(self):
        panel = Panel([(word, ["x", "y", "z", "w"]) for word in "abcd"])
        rows = []
        for number in range(256):
            records = {f"n{part}": ("para", "", part, str(number * part % 256)) for part in range(40)}
            rows.append((2 ** number, plain_of(records)))
        book = gathered(panel, rows)
        self.assertEqual(len(book.classes()), 256)
        self.assertEqual(len(book.names()), 40)
        self.assertEqual(len(book.contents("n1")), 256)
        self.assertEqual(book.where("n39"), panel.all_choices())
        self.assertTrue(book.same(gathered(panel, rows[::-1])))


if __name__ == "__main__":
    unittest.main()
