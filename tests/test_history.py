import random
import unittest

from helper import (LANG, SIZE, about_of, drawn_book, drawn_panel, drawn_set, drawn_told, members_of, odd_things,
                    plain_of, reckoned, set_of, states_of)
from manyleaf.book import Book, gathered
from manyleaf.edits import Cut, Move, Put, Wrap, Write
from manyleaf.errors import Doubled, EditError, IsLive, LeafError, NoEdit, NoPart, NotLive, StandsOn
from manyleaf.history import History
from manyleaf.panel import Panel
from manyleaf.reach import edited
from manyleaf.tuples import edit_of

PANEL = Panel([LANG, SIZE], [{"lang": ["de"], "size": ["small"]}])
ALL = 0b111111


def sample():
    return gathered(PANEL, [
        (0b000011, plain_of({"a": ("chapter", "", 1, "A"), "p": ("para", "a", 0, "x")})),
        (0b011100, plain_of({"a": ("chapter", "", 1, "B")})),
    ])


def everything(history, many):
    return (states_of(history.book_now()), history.live(), [history.told(number) for number in range(1, many + 1)])


class Doing(unittest.TestCase):
    def test_edits_are_numbered_from_1_on(self):
        history = History(sample())
        self.assertEqual(history.do(Write("a", "one"), ALL), 1)
        self.assertEqual(history.do(Write("a", "two"), 1), 2)
        self.assertEqual(history.do(Put("n", "para", "", 0, ""), 0b000100), 3)
        self.assertEqual(history.live(), [1, 2, 3])
        self.assertEqual(history.book_now().contents("a"), [(0b000001, "two"), (0b011110, "one")])

    def test_refused_ones_have_no_number(self):
        history = History(sample())
        self.assertEqual(history.do(Write("a", "one"), ALL), 1)
        before = everything(history, 1)
        for told, reach, error, part, choice in (
                (("put", "p", "para", "", 0, ""), ALL, Doubled, "p", 0), (("cut", "p"), 0b011100, NoPart, "p", None),
                (("put", "n", "para", "", 0, ""), 0b100000, NoPart, "", None), (("cut", "q"), ALL, NoPart, "q", None)):
            with self.assertRaises(error) as caught:
                history.do(edit_of(told), reach)
            refusal = caught.exception
            self.assertEqual((type(refusal), refusal.part, refusal.choice), (error, part, choice))
            self.assertEqual(everything(history, 1), before)
        self.assertEqual(history.do(Write("a", "two"), ALL), 2)

    def test_what_is_told_of_an_edit(self):
        history = History(sample())
        history.do(Write("p", "new"), 0b110110)
        history.do(Put("n", "para", "", 0, ""), 0b100100)
        self.assertEqual(history.told(1), (("write", "p", "new"), 0b010110, 0b000010, True))
        self.assertEqual(history.told(2), (("put", "n", "para", "", 0, ""), 0b000100, 0b000100, True))
        history.undo(1)
        self.assertEqual(history.told(1), (("write", "p", "new"), 0b010110, 0b000010, False))
        self.assertIs(history.told(1)[3], False)
        self.assertIs(history.told(2)[3], True)
        self.assertIs(type(history.told(1)), tuple)

    def test_a_new_history(self):
        for book in (sample(), Book(PANEL)):
            history = History(book)
            self.assertTrue(history.book_now().same(book))
            self.assertEqual(history.live(), [])

    def test_deed_sets_never_change(self):
        history = History(sample())
        history.do(Cut("p"), 0b000001)
        history.do(Write("p", "y"), ALL)
        self.assertEqual(history.told(2)[2], 0b000010)
        history.undo(1)
        self.assertEqual(history.told(2)[2], 0b000010)
        self.assertEqual(history.book_now().contents("p"), [(0b000011, "y")])


class Undoing(unittest.TestCase):
    def test_out_of_order(self):
        history = History(sample())
        history.do(Write("a", "one"), ALL)
        history.do(Write("a", "two"), 0b000001)
        history.do(Write("p", "new"), ALL)
        history.undo(1)
        self.assertEqual(history.live(), [2, 3])
        self.assertEqual(history.book_now().contents("a"), [(0b000001, "two"), (0b000010, "A"), (0b011100, "B")])
        history.undo(3)
        history.redo(1)
        self.assertEqual(history.book_now().contents("a"), [(0b000001, "two"), (0b011110, "one")])
        self.assertEqual(history.book_now().contents("p"), [(0b000011, "x")])
        self.assertIsNone(history.undo(2))
        self.assertIsNone(history.redo(3))
        self.assertEqual(history.live(), [1, 3])

    def test_the_next_number_counts_those_taken_back(self):
        history = History(sample())
        history.do(Write("a", "one"), ALL)
        history.undo(1)
        self.assertEqual(history.do(Write("a", "two"), ALL), 2)
        history.redo(1)
        self.assertEqual(history.book_now().contents("a"), [(0b011111, "two")])

    def refused(self, history, asked, number, error, fields):
        many = len(history.deeds)
        before = everything(history, many)
        with self.assertRaises(LeafError) as caught:
            asked(number)
        self.assertIs(type(caught.exception), error)
        self.assertEqual(vars(caught.exception), fields)
        self.assertEqual(everything(history, many), before)

    def test_what_is_no_number_of_an_edit(self):
        history = History(sample())
        for asked in (history.undo, history.redo, history.told):
            for thing in (1, 0, True):
                self.refused(history, asked, thing, NoEdit, {"number": thing})
        history.do(Write("a", "one"), ALL)
        history.do(Write("a", "two"), ALL)
        for asked in (history.undo, history.redo, history.told):
            for thing in odd_things() + [0, 3, 4, "2", [1]]:
                with self.subTest(thing):
                    with self.assertRaises(NoEdit) as caught:
                        asked(thing)
                    self.assertIs(caught.exception.number, thing)
        self.assertEqual(history.live(), [1, 2])

    def test_not_live_and_is_live(self):
        history = History(sample())
        history.do(Write("a", "one"), ALL)
        self.refused(history, history.redo, 1, IsLive, {"number": 1})
        history.undo(1)
        self.refused(history, history.undo, 1, NotLive, {"number": 1})
        history.redo(1)
        self.refused(history, history.redo, 1, IsLive, {"number": 1})

    def test_not_live_goes_ahead_of_stands_on(self):
        history = History(sample())
        history.do(Put("n", "chapter", "", 0, ""), ALL)
        history.do(Put("m", "para", "n", 0, ""), ALL)
        history.undo(2)
        history.undo(1)
        self.refused(history, history.undo, 1, NotLive, {"number": 1})
        self.refused(history, history.redo, 2, StandsOn, {"number": 2, "choice": 0})

    def test_an_edit_that_stands_on_another(self):
        history = History(sample())
        history.do(Put("n", "chapter", "", 0, ""), 0b011110)
        history.do(Put("m", "para", "n", 0, ""), 0b011000)
        self.refused(history, history.undo, 1, StandsOn, {"number": 2, "choice": 3})
        history.undo(2)
        history.undo(1)
        self.refused(history, history.redo, 2, StandsOn, {"number": 2, "choice": 3})
        history.redo(1)
        history.redo(2)
        self.assertEqual(history.live(), [1, 2])

    def test_the_first_edit_that_fails_is_told(self):
        history = History(sample())
        history.do(Put("n", "chapter", "", 0, ""), ALL)
        history.do(Write("a", "x"), ALL)
        history.do(Write("n", "one"), 0b010000)
        history.do(Write("n", "two"), 0b000001)
        self.refused(history, history.undo, 1, StandsOn, {"number": 3, "choice": 4})

    def test_the_part_is_gone_at_some_choices_of_the_deed_set(self):
        history = History(sample())
        history.do(Put("n", "para", "", 0, ""), 0b001000)
        history.do(Put("n", "para", "", 5, ""), 0b000100)
        history.do(Write("n", "x"), ALL)
        self.refused(history, history.undo, 1, StandsOn, {"number": 3, "choice": 3})
        self.refused(history, history.undo, 2, StandsOn, {"number": 3, "choice": 2})

    def test_a_refusal_at_a_choice_that_the_deed_set_did_not_have(self):
        history = History(sample())
        history.do(Cut("p"), 0b000001)
        history.do(Write("p", "y" * 60), ALL)
        history.do(edit_of(("splice", "p", 0, 0, "")), ALL)
        self.assertEqual(history.told(3)[2], 0b000010)
        history.undo(2)
        history.do(edit_of(("write", "p", "z" * 59)), 0b000010)
        history.undo(1)
        self.assertEqual(history.book_now().contents("p"), [(0b000001, "x"), (0b000010, "z" * 59)])
        history = History(sample())
        history.do(Cut("a"), 0b000001)
        history.do(Put("q", "para", "", 0, ""), 0b000001)
        history.do(Wrap("a", "q", ""), ALL)
        self.assertEqual(history.told(3)[2], 0b011110)
        self.refused(history, history.undo, 1, StandsOn, {"number": 3, "choice": 0})

    def test_the_least_of_both_kinds_of_choices(self):
        history = History(sample())
        history.do(Cut("p"), 0b000001)
        history.do(Put("q", "para", "", 0, ""), 0b000001)
        history.do(Put("p", "para", "", 0, ""), 0b001000)
        history.do(Wrap("p", "q", ""), 0b001001)
        self.refused(history, history.undo, 3, StandsOn, {"number": 4, "choice": 3})
        self.refused(history, history.undo, 1, StandsOn, {"number": 4, "choice": 0})

    def test_the_part_is_there_at_no_choice_of_the_reach(self):
        history = History(sample())
        history.do(Put("n", "para", "", 0, ""), 0b011010)
        history.do(Write("n", "x"), ALL)
        self.refused(history, history.undo, 1, StandsOn, {"number": 2, "choice": 1})

    def test_redoing_may_fail_too(self):
        history = History(sample())
        history.do(Put("n", "para", "", 0, ""), ALL)
        history.undo(1)
        history.do(Put("n", "chapter", "", 0, ""), 0b001000)
        self.refused(history, history.redo, 1, StandsOn, {"number": 2, "choice": 3})
        history.undo(2)
        history.redo(1)
        self.refused(history, history.redo, 2, StandsOn, {"number": 2, "choice": 3})

    def test_a_move_into_what_was_taken_back(self):
        history = History(sample())
        history.do(Put("n", "chapter", "", 0, ""), ALL)
        history.do(Move("a", "n", 3), 0b000110)
        self.refused(history, history.undo, 1, StandsOn, {"number": 2, "choice": 1})

    def test_sixty_edits(self):
        history = History(sample())
        for number in range(60):
            self.assertEqual(history.do(Write("a", str(number)), ALL), number + 1)
        for number in range(60, 1, -1):
            history.undo(number)
        self.assertEqual(history.book_now().contents("a"), [(0b011111, "0")])


class Kept(unittest.TestCase):
    def test_books_and_lists_that_were_told_are_the_askers_own(self):
        book = sample()
        history = History(book)
        history.do(Write("a", "one"), ALL)
        before = everything(history, 1)
        history.live().clear()
        history.book_now().plain(0).drop("a")
        self.assertIsNot(history.book_now(), history.book_now())
        self.assertEqual(everything(history, 1), before)
        self.assertTrue(book.same(sample()))

    def test_a_told_book_stays(self):
        history = History(sample())
        first = history.book_now()
        history.do(Write("a", "one"), ALL)
        second = history.book_now()
        history.undo(1)
        self.assertTrue(first.same(sample()))
        self.assertEqual(second.contents("a"), [(0b011111, "one")])

    def test_two_histories_of_one_book(self):
        book = sample()
        one, other = History(book), History(book)
        one.do(Cut("a"), ALL)
        self.assertTrue(other.book_now().same(book))
        self.assertEqual(other.live(), [])


class Reckoning:
    """Points 70 to 73 by their words, choice by choice."""

    def __init__(self, book):
        self.first = states_of(book)
        self.edits = []
        self.live = []

    def made(self, live):
        states = dict(self.first)
        for number, (told, reach, deed) in enumerate(self.edits, 1):
            if number not in live:
                continue
            here = self.deed(states, told, reach)
            came = {choice: reckoned(states[choice], told) for choice in here}
            failing = [choice for choice in here if not isinstance(came[choice], dict)]
            failing += [choice for choice in deed if choice not in here]
            if failing:
                return (number, min(failing))
            states.update(came)
        return states

    def deed(self, states, told, reach):
        about = about_of(told)
        return [choice for choice in reach if choice in states and (about == "" or about in states[choice])]

    def do(self, told, reach):
        states = self.made(self.live)
        deed = self.deed(states, told, reach)
        if not deed:
            return (NoPart, about_of(told), None)
        for choice in deed:
            came = reckoned(states[choice], told)
            if not isinstance(came, dict):
                return came + (choice,)
        self.edits.append((told, reach, deed))
        self.live.append(len(self.edits))
        return len(self.edits)

    def turn(self, number, word):
        live = [one for one in self.live if one != number] if word == "undo" else sorted(self.live + [number])
        made = self.made(live)
        if isinstance(made, dict):
            self.live = live
            return None
        return made


def likely_edit(rng, panel, history):
    """The first of a few drawn edits that is not refused, or the last of them."""
    for _ in range(6):
        told, reach = drawn_told(rng), drawn_set(rng, panel)
        try:
            edited(history.book_now(), edit_of(told), reach)
        except EditError:
            continue
        break
    return told, reach


class Drawn(unittest.TestCase):
    def test_long_histories_against_a_plain_reckoning(self):
        rng = random.Random(26)
        met = {"done": 0, "refused": 0, "turned": 0, "stands": 0}
        for _ in range(60):
            panel = drawn_panel(rng, most=8)
            book = drawn_book(rng, panel, most=5)
            history, reckoning = History(book), Reckoning(book)
            for _ in range(40):
                if rng.random() < 0.5 or not reckoning.edits:
                    self.step_do(rng, panel, history, reckoning, met)
                else:
                    self.step_turn(rng, history, reckoning, met)
                self.assertEqual(states_of(history.book_now()), reckoning.made(reckoning.live))
                self.assertEqual(history.live(), reckoning.live)
                for number, (told, reach, deed) in enumerate(reckoning.edits, 1):
                    expected = (told, set_of(reach) & panel.allowed(), set_of(deed), number in reckoning.live)
                    self.assertEqual(history.told(number), expected)
        self.assertTrue(all(many > 50 for many in met.values()), met)

    def step_do(self, rng, panel, history, reckoning, met):
        told, reach = likely_edit(rng, panel, history)
        expected = reckoning.do(told, members_of(reach))
        if isinstance(expected, int):
            self.assertEqual(history.do(edit_of(told), reach), expected)
            met["done"] += 1
            return
        with self.assertRaises(EditError) as caught:
            history.do(edit_of(told), reach)
        refusal = caught.exception
        self.assertEqual((type(refusal), refusal.part, refusal.choice), expected)
        met["refused"] += 1

    def step_turn(self, rng, history, reckoning, met):
        number = rng.randint(1, len(reckoning.edits))
        word = "undo" if number in reckoning.live else "redo"
        turn = history.undo if word == "undo" else history.redo
        expected = reckoning.turn(number, word)
        if expected is not None:
            with self.assertRaises(StandsOn) as caught:
                turn(number)
            self.assertEqual((caught.exception.number, caught.exception.choice), expected)
            met["stands"] += 1
            return
        before = history.book_now()
        turn(number)
        back = history.redo if word == "undo" else history.undo
        after = history.book_now()
        back(number)
        self.assertTrue(history.book_now().same(before))
        turn(number)
        self.assertTrue(history.book_now().same(after))
        met["turned"] += 1

    def test_what_was_undone_can_be_redone_at_once(self):
        rng = random.Random(27)
        turned = 0
        for _ in range(60):
            panel = drawn_panel(rng, most=8)
            history = History(drawn_book(rng, panel))
            for _ in range(15):
                told, reach = likely_edit(rng, panel, history)
                try:
                    history.do(edit_of(told), reach)
                except EditError:
                    pass
            for number in history.live():
                before = everything(history, len(history.deeds))
                try:
                    history.undo(number)
                except StandsOn:
                    continue
                history.redo(number)
                self.assertEqual(everything(history, len(history.deeds)), before)
                turned += 1
        self.assertGreater(turned, 60)


if __name__ == "__main__":
    unittest.main()
