"""Promise 6, over drawn panels, books, views, edits, histories and joins, choice by choice; and promise 5 beside it."""

import ast
import pathlib
import random
import unittest

from helper import (about_of, drawn_book, drawn_panel, drawn_set, drawn_told, members_of, plain_of, reckoned, set_of,
                    states_of)
from manyleaf.book import Book, gathered
from manyleaf.conds import read_cond, tell_cond, undecided
from manyleaf.errors import EditError, NoPart, StandsOn, Unlike
from manyleaf.history import History
from manyleaf.joins import book_join, plain_join
from manyleaf.pages import read_page, shown_lines, written
from manyleaf.panel import Panel
from manyleaf.reach import deed_set, edited, seen_alike
from manyleaf.tuples import edit_of
from manyleaf.views import View


def drawn_cases(seed, many, most=16):
    rng = random.Random(seed)
    for _ in range(many):
        panel = drawn_panel(rng, most=most)
        yield rng, panel, drawn_book(rng, panel)


def view_cond(rng, panel):
    """Some switches set, the others left open."""
    terms = [word + "=" + rng.choice(settings) for word, settings in panel.switches() if rng.random() < 0.5]
    return "&".join(terms) or "*"


class Edits(unittest.TestCase):
    def test_rows_of_edits_through_views(self):
        met = {"done": 0, "refused": 0, "unlike": 0}
        for rng, panel, book in drawn_cases(40, 150, most=20):
            for _ in range(20):
                told = drawn_told(rng)
                within = read_cond(panel, view_cond(rng, panel))
                reach = self.reach(rng, book, told, within, met)
                if reach is not None:
                    book = self.step(book, told, reach, met)
        self.assertTrue(all(many > 25 for many in met.values()), met)

    def reach(self, rng, book, told, within, met):
        about = about_of(told)
        if about == "" or rng.random() < 0.6:
            return within
        states = states_of(book)
        having = [number for number in members_of(within) if about in states.get(number, {})]
        try:
            reach = seen_alike(book, about, within)
        except NoPart:
            self.assertEqual(having, [])
            return None
        except Unlike as refusal:
            one, other = refusal.one, refusal.other
            self.assertTrue({one, other} <= set(having))
            self.assertNotEqual(states[one][about], states[other][about])
            met["unlike"] += 1
            return None
        alike = [number for number in states if states[number].get(about) == states[having[0]][about]]
        self.assertEqual(reach, set_of(alike))
        return reach

    def step(self, book, told, reach, met):
        before = states_of(book)
        about = about_of(told)
        deed = [number for number in before if reach >> number & 1 and (about == "" or about in before[number])]
        came = {number: reckoned(before[number], told) for number in deed}
        refused = [number for number in deed if not isinstance(came[number], dict)]
        self.assertEqual(deed_set(book, edit_of(told), reach), set_of(deed))
        try:
            after = edited(book, edit_of(told), reach)
        except EditError as refusal:
            self.assertEqual(refusal.choice, refused[0] if refused else None)
            self.assertTrue(refused or not deed)
            met["refused"] += 1
            return book
        self.assertEqual(refused, [])
        self.assertEqual(states_of(after), {**before, **came})
        met["done"] += 1
        return after


class Views(unittest.TestCase):
    def test_lines_are_what_the_choices_read(self):
        for rng, panel, book in drawn_cases(41, 120):
            within = read_cond(panel, view_cond(rng, panel)) & panel.allowed()
            if within == 0:
                continue
            lines = View(book, within).lines()
            for number in members_of(within):
                self.assertEqual(self.seen(panel, lines, number), book.plain(number).lines())

    def seen(self, panel, lines, number):
        seen, hidden = [], None
        for depth, name, kind, rank, cond, contents in lines:
            if hidden is not None and depth > hidden:
                continue
            hidden = None
            if not read_cond(panel, cond) >> number & 1:
                hidden = depth
                continue
            own = [content for part, content in contents if read_cond(panel, part) >> number & 1]
            self.assertEqual(len(own), 1)
            seen.append((depth, name, kind, rank, own[0]))
        return seen

    def test_no_conditions_that_tell_the_same_name_fewer_switches(self):
        for rng, panel, book in drawn_cases(42, 60, most=12):
            for name in book.names():
                for within in (panel.allowed(), drawn_set(rng, panel)):
                    choices = book.where(name)
                    text = tell_cond(panel, choices, within)
                    named = {term.split("=")[0] for box in text.split("|") for term in box.split("&") if "=" in term}
                    for word in [word for word, settings in panel.switches()]:
                        fewer = sorted(named - {word})
                        if len(fewer) < len(named):
                            self.assertIsNotNone(undecided(panel, choices, within, fewer))

    def test_what_is_not_alike_comes_with_two_choices_that_are_unlike(self):
        for rng, panel, book in drawn_cases(43, 100):
            within = drawn_set(rng, panel) & panel.allowed() or panel.allowed()
            view = View(book, within)
            states = states_of(book)
            there = sorted({name for number in members_of(within) for name in states[number]})
            self.assertEqual(sorted(view.shared() + [name for name, one, other in view.apart()]), there)
            for name, one, other in view.apart():
                self.assertTrue(within >> one & 1 and within >> other & 1)
                self.assertNotEqual(states[one].get(name), states[other].get(name))
            for name in view.shared():
                self.assertEqual(len({states[number][name] for number in members_of(within)}), 1)


class Pages(unittest.TestCase):
    def test_books_that_read_alike_are_written_alike_and_read_back(self):
        for rng, panel, book in drawn_cases(44, 100, most=30):
            rows = [(2 ** number, book.plain(number)) for number in members_of(panel.allowed())]
            rng.shuffle(rows)
            other = gathered(panel, rows)
            self.assertEqual(written(other), written(book))
            self.assertTrue(read_page(panel, written(book)).same(book))

    def test_lines_with_a_choice_that_shows_them_or_the_rules_that_bar_them(self):
        dead = 0
        for rng, panel, book in drawn_cases(45, 150):
            page = written(book)
            lines = page.split("\n") if page else []
            barred = panel.all_choices() & ~panel.allowed()
            for number in rng.sample(members_of(barred), min(2, len(members_of(barred)))):
                cond = tell_cond(panel, 2 ** number, panel.all_choices())
                lines += [f"1 dead chapter 0 {cond}", "2 deader para 0 *"]
            for line, choice, paper in shown_lines(panel, "\n".join(lines)):
                name = lines[line - 1].split(" ")[1]
                if choice is not None:
                    self.assertEqual(paper, [])
                    self.assertTrue(book.plain(choice).has(name))
                else:
                    dead += 1
                    self.assertEqual(len(paper), 1)
                    self.assertEqual(panel.barred(paper[0][0]), paper[0][1])
                    self.assertIsNotNone(paper[0][1])
        self.assertGreater(dead, 100)

    def test_the_different_plain_books_are_told_each_with_its_first_choice(self):
        for rng, panel, book in drawn_cases(46, 80):
            states = states_of(book)
            ahead = {number: [states[other] for other in states if other < number] for number in states}
            firsts = [number for number in states if states[number] not in ahead[number]]
            self.assertEqual([members_of(choices)[0] for choices in book.classes()], firsts)
            for choices in book.classes():
                self.assertEqual(len({repr(sorted(states[number].items())) for number in members_of(choices)}), 1)


def drawn_history(rng, panel, book, many):
    """A history and its edits (tuple, reach) by their numbers."""
    history, edits = History(book), []
    for _ in range(many):
        told, reach = drawn_told(rng), drawn_set(rng, panel)
        try:
            history.do(edit_of(told), reach)
        except EditError:
            continue
        edits.append((told, reach))
    return history, edits


class Histories(unittest.TestCase):
    def test_taking_back_gives_the_book_in_which_it_was_never_made(self):
        met = {"taken": 0, "stands": 0}
        for rng, panel, book in drawn_cases(47, 100, most=8):
            history, edits = drawn_history(rng, panel, book, 30)
            deeds = [history.told(number)[2] for number in range(1, len(edits) + 1)]
            for number in rng.sample(range(1, len(edits) + 1), len(edits)):
                before = (history.live(), states_of(history.book_now()))
                live = [one for one in history.live() if one != number]
                expected = self.without(book, edits, deeds, live)
                try:
                    history.undo(number)
                except StandsOn as refusal:
                    self.assertEqual((refusal.number, refusal.choice), expected)
                    self.assertEqual((history.live(), states_of(history.book_now())), before)
                    met["stands"] += 1
                    continue
                self.assertTrue(history.book_now().same(expected))
                met["taken"] += 1
                if rng.random() < 0.5:
                    history.redo(number)
                    self.assertEqual((history.live(), states_of(history.book_now())), before)
        self.assertTrue(met["taken"] > 200 and met["stands"] > 5, met)

    def without(self, book, edits, deeds, live):
        """The book of the live edits alone, or the edit that fails with its choice."""
        for number in live:
            told, reach = edits[number - 1]
            missing = members_of(deeds[number - 1] & ~deed_set(book, edit_of(told), reach))
            try:
                book = edited(book, edit_of(told), reach)
            except EditError as refusal:
                return (number, min(missing + ([] if refusal.choice is None else [refusal.choice])))
            if missing:
                return (number, missing[0])
        return book


class Joins(unittest.TestCase):
    def test_two_histories_laid_together(self):
        clashing = 0
        for rng, panel, book in drawn_cases(48, 120, most=12):
            one, other = [drawn_history(rng, panel, book, 12)[0].book_now() for _ in range(2)]
            joined, clashes = book_join(book, one, other)
            turned, same = book_join(book, other, one)
            self.assertTrue(joined.same(turned))
            self.assertEqual(clashes, same)
            found = {}
            for number in members_of(panel.allowed()):
                plain, here = plain_join(book.plain(number), one.plain(number), other.plain(number))
                self.assertTrue(plain.same(joined.plain(number)))
                for clash in here:
                    found[clash] = found.get(clash, 0) | 2 ** number
            self.assertEqual(clashes, [clash + (found[clash],) for clash in sorted(found)])
            self.assertTrue(read_page(panel, written(joined)).same(joined))
            clashing += bool(clashes)
        self.assertGreater(clashing, 20)


class Great(unittest.TestCase):
    def test_the_greatest_panel_and_a_long_history(self):
        rng = random.Random(49)
        switches = [(word, ["x", "y", "z", "w"]) for word in "abc"] + [("d", ["x", "y"]), ("e", ["x", "y"])]
        panel = Panel(switches, [{"a": ["w"], "e": ["y"]}])
        self.assertEqual(panel.many(), 256)
        records = {f"c{part}": ("chapter", f"c{part - 1}" if part else "", 0, "title") for part in range(10)}
        records.update({f"n{part}": ("para", f"c{part % 10}", part, "text") for part in range(30)})
        book = gathered(panel, [(panel.all_choices(), plain_of(records))])
        history = History(book)
        for number in range(60):
            told = ("write", f"n{number % 30}", str(number))
            self.assertEqual(history.do(edit_of(told), rng.randrange(1, panel.all_choices())), number + 1)
        self.assertGreater(len(history.book_now().classes()), 100)
        for number in (1, 30, 60):
            history.undo(number)
        self.assertEqual(len(history.live()), 57)
        now = history.book_now()
        self.assertTrue(read_page(panel, written(now)).same(now))
        joined, clashes = book_join(book, now, book)
        self.assertTrue(joined.same(now))
        self.assertEqual(clashes, [])


class Kept(unittest.TestCase):
    def test_books_are_told_anew_each_time(self):
        for rng, panel, book in drawn_cases(50, 10):
            history = History(book)
            told = [edited(book, edit_of(("put", "new", "para", "", 0, "")), panel.all_choices()), history.book_now(),
                    book_join(book, book, book)[0], read_page(panel, written(book))]
            self.assertTrue(all(type(one) is Book and one is not book for one in told))

    def test_no_clock_chance_or_files(self):
        folder = pathlib.Path(__file__).resolve().parent.parent / "manyleaf"
        for path in folder.glob("*.py"):
            for node in ast.walk(ast.parse(path.read_text(encoding="utf-8"))):
                self.assertNotIsInstance(node, ast.Import)
                if isinstance(node, ast.ImportFrom):
                    self.assertTrue(node.module.startswith("manyleaf."))


if __name__ == "__main__":
    unittest.main()
