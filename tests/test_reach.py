import random
import unittest

from helper import (LANG, SIZE, about_of, drawn_book, drawn_panel, drawn_set, drawn_told, members_of, plain_of,
                    reckoned, set_of, states_of)
from manyleaf.book import Book, gathered
from manyleaf.edits import Cut, Put, Write
from manyleaf.errors import Doubled, EditError, Lost, NoHolder, NoPart, Unlike, WrongKind
from manyleaf.panel import Panel
from manyleaf.reach import deed_set, edited, seen_alike
from manyleaf.tuples import edit_of

PANEL = Panel([LANG, SIZE], [{"lang": ["de"], "size": ["small"]}])


def sample():
    return gathered(PANEL, [
        (0b000001, plain_of({"a": ("chapter", "", 1, "A"), "p": ("para", "a", 0, "x")})),
        (0b000110, plain_of({"a": ("chapter", "", 1, "B"), "q": ("table", "", 0, (("x",),))})),
        (0b011000, plain_of({"a": ("chapter", "", 1, "B"), "p": ("para", "", 0, "x")})),
    ])


class SeenAlike(unittest.TestCase):
    def test_by_hand(self):
        self.assertEqual(seen_alike(sample(), "a", 0b000010), 0b011110)
        self.assertEqual(seen_alike(sample(), "a", 0b000001), 0b000001)
        self.assertEqual(seen_alike(sample(), "p", 0b011110), 0b011000)
        self.assertEqual(seen_alike(sample(), "p", 0b100111), 0b000001)
        self.assertEqual(seen_alike(sample(), "q", 0b111111), 0b000110)

    def no_part(self, book, name, within):
        with self.assertRaises(NoPart) as caught:
            seen_alike(book, name, within)
        self.assertIs(type(caught.exception), NoPart)
        self.assertEqual((caught.exception.part, caught.exception.choice), (name, None))

    def test_a_part_that_is_not_there(self):
        for name, within in (("p", 0b000110), ("q", 0b011001), ("z", 0b111111), ("a", 0), ("a", 0b100000),
                             ("", 0b111111)):
            self.no_part(sample(), name, within)
        self.no_part(Book(PANEL), "a", 0b111111)

    def test_unlike_records(self):
        for name, within, one, other in (("a", 0b111111, 0, 1), ("a", 0b011001, 0, 3), ("p", 0b111111, 0, 3),
                                         ("p", 0b010111, 0, 4)):
            with self.assertRaises(Unlike) as caught:
                seen_alike(sample(), name, within)
            refusal = caught.exception
            self.assertEqual((type(refusal), refusal.part, refusal.one, refusal.other), (Unlike, name, one, other))

    def test_drawn(self):
        rng = random.Random(23)
        met = set()
        for _ in range(400):
            panel = drawn_panel(rng)
            book = drawn_book(rng, panel)
            states = states_of(book)
            within = drawn_set(rng, panel)
            name = rng.choice(book.names() or ["a"])
            having = [number for number in members_of(within & panel.allowed()) if name in states[number]]
            unlike = [number for number in having if states[number][name] != states[having[0]][name]]
            if not having:
                self.no_part(book, name, within)
                met.add("none")
            elif unlike:
                with self.assertRaises(Unlike) as caught:
                    seen_alike(book, name, within)
                refusal = caught.exception
                self.assertEqual((refusal.part, refusal.one, refusal.other), (name, having[0], unlike[0]))
                met.add("unlike")
            else:
                alike = [number for number in states if states[number].get(name) == states[having[0]][name]]
                self.assertEqual(seen_alike(book, name, within), set_of(alike))
                met.add("alike")
        self.assertEqual(len(met), 3)


class Edited(unittest.TestCase):
    def refused(self, book, told, reach, error, part, choice):
        before = states_of(book)
        with self.subTest(told, reach=reach):
            with self.assertRaises(error) as caught:
                edited(book, edit_of(told), reach)
            refusal = caught.exception
            self.assertEqual((type(refusal), refusal.part, refusal.choice), (error, part, choice))
            self.assertEqual(states_of(book), before)

    def test_deed_sets(self):
        self.assertEqual(deed_set(sample(), Cut("a"), 0b111111), 0b011111)
        self.assertEqual(deed_set(sample(), Cut("p"), 0b110110), 0b010000)
        self.assertEqual(deed_set(sample(), Cut("p"), 0b000110), 0)
        self.assertEqual(deed_set(sample(), Cut("z"), 0b111111), 0)
        self.assertEqual(deed_set(sample(), Put("n", "para", "", 0, ""), 0b110110), 0b010110)
        self.assertEqual(deed_set(sample(), Put("n", "para", "", 0, ""), 0b100000), 0)
        self.assertEqual(deed_set(sample(), Put("n", "para", "q", 0, ""), 0b111011), 0b000010)
        self.assertEqual(deed_set(Book(PANEL), Put("n", "para", "", 0, ""), 0b111111), 0b011111)

    def test_an_edit_reaches_its_choices_alone(self):
        book = sample()
        after = edited(book, Write("a", "new"), 0b000011)
        self.assertEqual(after.contents("a"), [(0b000011, "new"), (0b011100, "B")])
        self.assertEqual(book.contents("a"), [(0b000001, "A"), (0b011110, "B")])
        self.assertIs(type(after), Book)

    def test_choices_without_the_part_are_passed_over(self):
        after = edited(sample(), Cut("p"), 0b111111)
        self.assertEqual(after.names(), ["a", "q"])
        self.assertTrue(after.plain(1).same(sample().plain(1)))

    def test_an_empty_deed_set(self):
        self.refused(sample(), ("cut", "p"), 0b000110, NoPart, "p", None)
        self.refused(sample(), ("cut", "a"), 0, NoPart, "a", None)
        self.refused(sample(), ("cut", "a"), 0b100000, NoPart, "a", None)
        self.refused(sample(), ("put", "n", "para", "", 0, ""), 0, NoPart, "", None)
        self.refused(sample(), ("put", "n", "para", "", 0, ""), 0b100000, NoPart, "", None)
        self.refused(sample(), ("put", "n", "para", "z", 0, ""), 0b111111, NoPart, "z", None)
        self.refused(Book(PANEL), ("wrap", "a", "a", ""), 0b111111, NoPart, "a", None)

    def test_the_least_choice_at_which_it_is_refused(self):
        self.refused(sample(), ("put", "q", "para", "", 0, ""), 0b111111, Doubled, "q", 1)
        self.refused(sample(), ("put", "q", "para", "", 0, ""), 0b011101, Doubled, "q", 2)
        self.refused(sample(), ("put", "p", "para", "", 0, ""), 0b011110, Doubled, "p", 3)
        self.refused(sample(), ("put", "n", "para", "p", 0, ""), 0b011110, NoHolder, "p", 3)
        self.refused(sample(), ("move", "a", "q", 0), 0b111111, Lost, "q", 0)
        self.refused(sample(), ("move", "a", "q", 0), 0b111110, NoHolder, "q", 1)
        self.refused(sample(), ("write", "q", "x"), 0b111100, WrongKind, "q", 2)

    def test_the_least_choice_is_not_that_of_the_first_class(self):
        one, other = plain_of({"a": ("para", "", 0, "")}), plain_of({"a": ("table", "", 0, (("",),)),
                                                                     "b": ("para", "", 0, "")})
        book = gathered(PANEL, [(0b010001, other), (0b001110, one)])
        self.refused(book, ("cell", "a", 0, 0, "x"), 0b011110, WrongKind, "a", 1)
        third = gathered(PANEL,
                         [(0b010001, one), (0b000010, other), (0b001100, plain_of({"a": ("chapter", "", 0, "")}))])
        self.refused(third, ("cell", "a", 0, 0, "x"), 0b011110, WrongKind, "a", 2)

    def test_drawn_edits_choice_by_choice(self):
        rng = random.Random(24)
        met = {}
        for _ in range(150):
            panel = drawn_panel(rng)
            book = drawn_book(rng, panel)
            for _ in range(25):
                told, reach = drawn_told(rng), drawn_set(rng, panel)
                before = states_of(book)
                about = about_of(told)
                here = [number for number in members_of(reach) if number in before]
                deed = [number for number in here if about == "" or about in before[number]]
                edit = edit_of(told)
                self.assertEqual(deed_set(book, edit, reach), set_of(deed))
                came = {number: reckoned(before[number], told) for number in deed}
                refused = [number for number in deed if not isinstance(came[number], dict)]
                if deed and not refused:
                    after = edited(book, edit, reach)
                    self.assertEqual(states_of(after), {**before, **came})
                    self.assertEqual(states_of(book), before)
                    book = after
                    met["done"] = met.get("done", 0) + 1
                    continue
                with self.assertRaises(EditError) as caught:
                    edited(book, edit, reach)
                refusal = caught.exception
                expected = came[refused[0]] + (refused[0],) if refused else (NoPart, about, None)
                self.assertEqual((type(refusal), refusal.part, refusal.choice), expected)
                self.assertEqual(states_of(book), before)
                met[type(refusal)] = True
        self.assertGreater(met.pop("done"), 500)
        self.assertGreaterEqual(len(met), 7)

    def test_what_is_made_shares_nothing_with_the_old_book(self):
        book = sample()
        after = edited(book, Write("p", "y"), 0b000001)
        after.plain(1).drop("a")
        self.assertTrue(after.plain(1).same(book.plain(1)))


def outcome(book, told, reach):
    try:
        return edited(book, edit_of(told), reach)
    except EditError as refusal:
        return (type(refusal), refusal.part, refusal.choice)


class EitherOrder(unittest.TestCase):
    def test_two_edits_with_reaches_apart(self):
        rng = random.Random(25)
        met = {}
        for _ in range(2500):
            panel = drawn_panel(rng)
            book = drawn_book(rng, panel)
            one, other = drawn_told(rng), drawn_told(rng)
            reach = drawn_set(rng, panel)
            barred = panel.all_choices() & ~panel.allowed()
            rest = drawn_set(rng, panel) & (~reach | barred) & panel.all_choices()
            first, second = outcome(book, one, reach), outcome(book, other, rest)
            done = [isinstance(made, Book) for made in (first, second)]
            if done[0]:
                self.assertEqual(isinstance(outcome(first, other, rest), Book), done[1])
            if done[1]:
                self.assertEqual(isinstance(outcome(second, one, reach), Book), done[0])
            if all(done):
                self.assertTrue(outcome(first, other, rest).same(outcome(second, one, reach)))
            elif done[0]:
                self.assertEqual(outcome(first, other, rest), second)
            elif done[1]:
                self.assertEqual(outcome(second, one, reach), first)
            met[tuple(done)] = met.get(tuple(done), 0) + 1
        self.assertTrue(all(met[one, other] > 20 for one in (True, False) for other in (True, False)), met)


if __name__ == "__main__":
    unittest.main()
