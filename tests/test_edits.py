import random
import unittest

from helper import about_of, drawn_plain, drawn_told, odd_things, plain_of, reckoned, records_of
from manyleaf import edits, errors
from manyleaf.edits import AddRow, Cell, Cut, CutRow, Edit, Move, Put, Splice, Wrap, Write
from manyleaf.errors import BadEdit, Doubled, Far, Lost, NoHolder, NoPart, Ring, TooLong, WrongKind
from manyleaf.plain import Plain
from manyleaf.tuples import edit_of

CLASSES = {"put": Put, "write": Write, "splice": Splice, "cell": Cell, "addrow": AddRow, "cutrow": CutRow, "cut": Cut,
           "move": Move, "wrap": Wrap}
EXAMPLES = [
    ("put", "a", "chapter", "", 0, "Title"), ("put", "a.1", "para", "a", 10 ** 9, ""),
    ("put", "t", "table", "a", 1, (("a", "b"), ("c", "d"))), ("write", "a", "text"), ("write", "a", ""),
    ("splice", "a", 0, 0, ""), ("splice", "a", 10 ** 9, 10 ** 9, "x" * 60), ("cell", "t", 0, 5, "x"),
    ("addrow", "t", 0, ("a",)), ("addrow", "t", 6, ("a", "b", "c", "d", "e", "f")), ("cutrow", "t", 0), ("cut", "a"),
    ("move", "a", "", 0), ("move", "a", "b", 10 ** 9), ("wrap", "a", "b", ""), ("wrap", "a", "a", "x" * 60),
]


def both_ways(told):
    return [CLASSES[told[0]](*told[1:]), edit_of(told)]


class Making(unittest.TestCase):
    def test_each_edit_is_told_again(self):
        for told in EXAMPLES:
            for edit in both_ways(told):
                self.assertIs(type(edit), CLASSES[told[0]])
                self.assertIsInstance(edit, Edit)
                self.assertEqual(edit.told(), told)
                self.assertIs(type(edit.told()), tuple)

    def test_what_it_is_about_and_what_it_makes(self):
        for told in EXAMPLES:
            made = {"put": told[1], "wrap": told[2] if len(told) > 2 else None}.get(told[0])
            for edit in both_ways(told):
                self.assertEqual(edit.about(), about_of(told))
                self.assertEqual(edit.made(), made)
        self.assertEqual(Put("a", "para", "", 0, "").about(), "")
        self.assertEqual(Wrap("a", "b", "").made(), "b")
        self.assertIsNone(Cut("a").made())

    def test_the_arguments_bear_their_names(self):
        self.assertEqual(Put(name="a", kind="para", parent="", rank=1, content="c").told(),
                         ("put", "a", "para", "", 1, "c"))
        self.assertEqual(Splice(part="a", at=1, size=2, text="t").told(), ("splice", "a", 1, 2, "t"))
        self.assertEqual(Cell(part="a", row=1, column=2, text="t").told(), ("cell", "a", 1, 2, "t"))
        self.assertEqual(AddRow(part="a", at=1, cells=("x",)).told(), ("addrow", "a", 1, ("x",)))
        self.assertEqual(CutRow(part="a", at=1).told(), ("cutrow", "a", 1))
        self.assertEqual(Cut(part="a").told(), ("cut", "a"))
        self.assertEqual(Move(part="a", parent="b", rank=1).told(), ("move", "a", "b", 1))
        self.assertEqual(Wrap(part="a", name="b", text="t").told(), ("wrap", "a", "b", "t"))
        self.assertEqual(Write(part="a", text="t").told(), ("write", "a", "t"))


GOOD = {
    "name": ["a", "z", "0", ".", "a" * 12], "parent": ["", "a", "a" * 12], "rank": [0, 1, 10 ** 9],
    "text": ["", " ", "x" * 60], "cells": [("",), ("x" * 60,) * 6],
}
BAD = {
    "name": ["", "A", "a b", "a" * 13, "a-b", "a\n", "\xe9"], "parent": [" ", "A", "-", "a" * 13, "a\n"],
    "rank": [-1, 10 ** 9 + 1, "0", 0.0], "text": ["x" * 61, "%", "a\nb", "\xe9"],
    "cells": [(), ("a",) * 7, ["a"], "a", ("x" * 61,), ("a", None), (("a",),), ("a", "%")],
}
FITTING = {"name": ("en", "0", "1"), "parent": ("en", "0", "1", ""), "rank": (), "text": ("", " ", "0", "1", "en", "*"),
           "cells": (("en",),)}
FORMS = {
    "put": ["name", None, "parent", "rank", None], "write": ["name", "text"],
    "splice": ["name", "rank", "rank", "text"],
    "cell": ["name", "rank", "rank", "text"], "addrow": ["name", "rank", "cells"], "cutrow": ["name", "rank"],
    "cut": ["name"], "move": ["name", "parent", "rank"], "wrap": ["name", "name", "text"],
}
BASE = {told[0]: told for told in EXAMPLES}


class Refused(unittest.TestCase):
    def refused(self, told):
        with self.subTest(told):
            for make in (lambda: CLASSES[told[0]](*told[1:]), lambda: edit_of(told)):
                with self.assertRaises(BadEdit) as caught:
                    make()
                self.assertIs(type(caught.exception), BadEdit)

    def with_thing(self, word, place, thing):
        told = list(BASE[word])
        told[place] = thing
        return tuple(told)

    def test_each_thing_at_its_bounds(self):
        for word, forms in FORMS.items():
            for place, form in enumerate(forms, 1):
                for thing in GOOD.get(form, []):
                    told = self.with_thing(word, place, thing)
                    for edit in both_ways(told):
                        self.assertEqual(edit.told(), told)

    def test_each_thing_beyond_its_bounds_and_of_other_kinds(self):
        for word, forms in FORMS.items():
            for place, form in enumerate(forms, 1):
                if form is not None:
                    for thing in BAD[form] + [thing for thing in odd_things() if not fits(form, thing)]:
                        self.refused(self.with_thing(word, place, thing))

    def test_truths_are_no_numbers(self):
        for told in (("splice", "a", True, 0, ""), ("splice", "a", 0, False, ""), ("cutrow", "a", True),
                     ("move", "a", "", False), ("put", "a", "para", "", True, "")):
            self.refused(told)

    def test_kinds_and_contents_of_put(self):
        for kind in odd_things() + ["Chapter", "chapters", "", "paras", ["para"], ("para",)]:
            self.refused(("put", "a", kind, "", 0, "text"))
        table = (("a", "b"),)
        for content in [table, "x" * 61, "%", ["a"]] + [thing for thing in odd_things() if not isinstance(thing, str)]:
            self.refused(("put", "a", "para", "", 0, content))
            self.refused(("put", "a", "chapter", "", 0, content))
        for content in ["", "a", (), ((),), [["a"]], (["a"],), (("a",), ("a", "b")), (("a",),) * 7,
                        (("a",) * 7,)] + odd_things():
            self.refused(("put", "a", "table", "", 0, content))

    def test_what_is_no_tuple(self):
        for thing in odd_things() + [["cut", "a"], "cut", {"cut": "a"}, ()]:
            with self.subTest(thing):
                self.assertRaises(BadEdit, edit_of, thing)

    def test_words_that_are_none(self):
        for word in odd_things() + ["Cut", "cuts", "cu", " cut", "", "edit", ["cut"], ("cut",), "putt"]:
            with self.subTest(word):
                self.assertRaises(BadEdit, edit_of, (word, "a"))
                self.assertRaises(BadEdit, edit_of, (word,))

    def test_things_too_few_and_too_many(self):
        for told in EXAMPLES:
            for size in range(1, len(told)):
                self.assertRaises(BadEdit, edit_of, told[:size])
            for more in (None, "", 0, "a"):
                self.assertRaises(BadEdit, edit_of, told + (more,))


def fits(form, thing):
    if form == "rank":
        return type(thing) is int and 0 <= thing <= 10 ** 9
    return any(type(thing) is type(fitting) and thing == fitting for fitting in FITTING[form])


def sample():
    plain = Plain()
    plain.lay("a", "chapter", "", 3, "One")
    plain.lay("b", "chapter", "a", 2, "Two")
    plain.lay("p", "para", "b", 1, "some text")
    plain.lay("t", "table", "a", 1, (("1", "2"), ("3", "4")))
    plain.lay("one", "table", "", 0, (("x", "y", "z"),))
    plain.lay("six", "table", "", 0, (("x", "y"),) * 6)
    plain.lay("full", "para", "", 9, "x" * 60)
    return plain


REFUSALS = [
    (("put", "new", "para", "q", 0, ""), NoPart, "q"), (("put", "a", "para", "q", 0, ""), NoPart, "q"),
    (("write", "q", ""), NoPart, "q"), (("splice", "q", 0, 0, ""), NoPart, "q"), (("cell", "q", 0, 0, ""), NoPart, "q"),
    (("addrow", "q", 0, ("",)), NoPart, "q"), (("cutrow", "q", 0), NoPart, "q"), (("cut", "q"), NoPart, "q"),
    (("move", "q", "r", 0), NoPart, "q"), (("move", "q", "q", 0), NoPart, "q"), (("wrap", "q", "a", ""), NoPart, "q"),
    (("put", "a", "para", "", 0, ""), Doubled, "a"), (("put", "a", "para", "p", 0, ""), Doubled, "a"),
    (("put", "p", "para", "p", 0, ""), Doubled, "p"), (("put", "new", "para", "p", 0, ""), NoHolder, "p"),
    (("put", "new", "chapter", "t", 0, ""), NoHolder, "t"),
    (("write", "t", ""), WrongKind, "t"), (("splice", "t", 0, 0, ""), WrongKind, "t"),
    (("splice", "t", 99, 99, "x" * 60), WrongKind, "t"),
    (("splice", "p", 9, 1, ""), Far, "p"), (("splice", "p", 10, 0, ""), Far, "p"),
    (("splice", "p", 0, 10, ""), Far, "p"),
    (("splice", "full", 61, 0, "x"), Far, "full"), (("splice", "full", 0, 61, "x" * 60), Far, "full"),
    (("splice", "full", 0, 0, "x"), TooLong, "full"), (("splice", "full", 60, 0, "x"), TooLong, "full"),
    (("splice", "full", 3, 1, "xx"), TooLong, "full"), (("splice", "p", 0, 0, "x" * 52), TooLong, "p"),
    (("cell", "a", 0, 0, ""), WrongKind, "a"), (("addrow", "p", 9, ("",)), WrongKind, "p"),
    (("cutrow", "p", 0), WrongKind, "p"), (("cell", "p", 9, 9, ""), WrongKind, "p"),
    (("cell", "t", 2, 0, ""), Far, "t"), (("cell", "t", 0, 2, ""), Far, "t"), (("cell", "t", 10 ** 9, 0, ""), Far, "t"),
    (("addrow", "t", 3, ("a", "b")), Far, "t"), (("addrow", "t", 0, ("a",)), Far, "t"),
    (("addrow", "t", 0, ("a", "b", "c")), Far, "t"), (("addrow", "six", 7, ("a", "b")), Far, "six"),
    (("addrow", "six", 0, ("a",)), Far, "six"), (("addrow", "six", 0, ("a", "b")), TooLong, "six"),
    (("addrow", "six", 6, ("a", "b")), TooLong, "six"),
    (("cutrow", "t", 2), Far, "t"), (("cutrow", "one", 0), Far, "one"), (("cutrow", "one", 1), Far, "one"),
    (("move", "a", "q", 0), Lost, "q"), (("move", "p", "q", 0), Lost, "q"), (("move", "a", "a", 0), Ring, "a"),
    (("move", "a", "b", 0), Ring, "a"), (("move", "a", "p", 0), Ring, "a"), (("move", "p", "p", 0), Ring, "p"),
    (("move", "b", "p", 0), Ring, "b"), (("move", "b", "t", 0), NoHolder, "t"),
    (("move", "full", "p", 0), NoHolder, "p"),
    (("wrap", "a", "a", ""), Doubled, "a"), (("wrap", "a", "p", ""), Doubled, "p"),
]


class RefusedByABook(unittest.TestCase):
    def test_each_refusal_by_need_and_by_on(self):
        for told, error, part in REFUSALS:
            for edit in both_ways(told):
                for asked in (edit.need, edit.on):
                    for given in ((), (None,), (0,), (7,)):
                        with self.subTest(told, asked=asked.__name__):
                            plain = sample()
                            with self.assertRaises(error) as caught:
                                asked(plain, *given)
                            self.assertIs(type(caught.exception), error)
                            self.assertEqual(caught.exception.part, part)
                            self.assertEqual(caught.exception.choice, given[0] if given else None)
                            self.assertTrue(plain.same(sample()))

    def test_the_choice_may_be_named(self):
        for asked in (Cut("q").need, Cut("q").on):
            with self.assertRaises(NoPart) as caught:
                asked(plain=sample(), choice=5)
            self.assertEqual(caught.exception.choice, 5)

    def test_each_class_of_refusal_is_there(self):
        classes = {error for told, error, part in REFUSALS}
        self.assertEqual(classes, {NoPart, Doubled, NoHolder, WrongKind, Far, TooLong, Lost, Ring})

    def test_an_empty_book(self):
        for told in EXAMPLES:
            edit = edit_of(told)
            plain = Plain()
            if about_of(told) == "":
                edit.on(plain)
                self.assertEqual(plain.names(), [told[1]])
            else:
                self.assertRaises(NoPart, edit.on, plain)
                self.assertEqual(plain.names(), [])


class Done(unittest.TestCase):
    def after(self, told):
        plain = sample()
        edit = edit_of(told)
        self.assertIsNone(edit.need(plain, 3))
        self.assertTrue(plain.same(sample()))
        self.assertIsNone(edit.on(plain, 3))
        return plain

    def just(self, told, records):
        """That the edit changes just these records."""
        expected = records_of(sample())
        expected.update(records)
        self.assertEqual(records_of(self.after(told)), expected)

    def test_put(self):
        self.just(("put", "new", "para", "", 5, "text"), {"new": ("para", "", 5, "text")})
        self.just(("put", "new", "table", "b", 0, (("x",),)), {"new": ("table", "b", 0, (("x",),))})

    def test_write(self):
        self.just(("write", "a", "New"), {"a": ("chapter", "", 3, "New")})
        self.just(("write", "p", ""), {"p": ("para", "b", 1, "")})

    def test_splice(self):
        for at, size, text, came in ((0, 0, "", "some text"), (0, 4, "", " text"), (4, 1, "-", "some-text"),
                                     (9, 0, "!", "some text!"),
                                     (0, 9, "x" * 60, "x" * 60), (0, 0, "x" * 51, "x" * 51 + "some text"),
                                     (8, 1, "", "some tex")):
            self.just(("splice", "p", at, size, text), {"p": ("para", "b", 1, came)})
        self.just(("splice", "full", 60, 0, ""), {"full": ("para", "", 9, "x" * 60)})
        self.just(("splice", "full", 0, 1, "y"), {"full": ("para", "", 9, "y" + "x" * 59)})
        self.just(("splice", "a", 3, 0, "!"), {"a": ("chapter", "", 3, "One!")})

    def test_cell(self):
        self.just(("cell", "t", 0, 0, "x"), {"t": ("table", "a", 1, (("x", "2"), ("3", "4")))})
        self.just(("cell", "t", 1, 1, ""), {"t": ("table", "a", 1, (("1", "2"), ("3", "")))})
        self.just(("cell", "t", 0, 1, "x" * 60), {"t": ("table", "a", 1, (("1", "x" * 60), ("3", "4")))})

    def test_addrow(self):
        for at in (0, 1, 2):
            rows = [("1", "2"), ("3", "4")]
            rows.insert(at, ("x", "y"))
            self.just(("addrow", "t", at, ("x", "y")), {"t": ("table", "a", 1, tuple(rows))})

    def test_cutrow(self):
        self.just(("cutrow", "t", 0), {"t": ("table", "a", 1, (("3", "4"),))})
        self.just(("cutrow", "t", 1), {"t": ("table", "a", 1, (("1", "2"),))})

    def test_cut(self):
        self.assertEqual(self.after(("cut", "a")).names(), ["full", "one", "six"])
        self.assertEqual(self.after(("cut", "p")).names(), ["a", "b", "full", "one", "six", "t"])

    def test_move(self):
        self.just(("move", "b", "", 7), {"b": ("chapter", "", 7, "Two")})
        self.just(("move", "p", "a", 0), {"p": ("para", "a", 0, "some text")})
        self.just(("move", "b", "a", 9), {"b": ("chapter", "a", 9, "Two")})
        self.just(("move", "full", "b", 1), {"full": ("para", "b", 1, "x" * 60)})

    def test_wrap(self):
        self.just(("wrap", "b", "w", "Title"), {"w": ("chapter", "a", 2, "Title"), "b": ("chapter", "w", 0, "Two")})
        self.just(("wrap", "t", "w", ""),
                  {"w": ("chapter", "a", 1, ""), "t": ("table", "w", 0, (("1", "2"), ("3", "4")))})
        self.just(("wrap", "full", "w", ""), {"w": ("chapter", "", 9, ""), "full": ("para", "w", 0, "x" * 60)})

    def test_an_edit_may_be_done_in_many_books(self):
        edit = Write("p", "new")
        for _ in range(3):
            plain = sample()
            edit.on(plain)
            self.assertEqual(plain.content_of("p"), "new")
            self.assertEqual(edit.told(), ("write", "p", "new"))


def is_tree(records):
    for name in records:
        seen = set()
        while name != "":
            if name in seen:
                return False
            seen.add(name)
            name = records[name][1]
            if name != "" and (name not in records or records[name][0] != "chapter"):
                return False
    return True


class Drawn(unittest.TestCase):
    def test_long_rows_of_drawn_edits(self):
        rng = random.Random(9)
        met = {}
        for _ in range(60):
            plain = drawn_plain(rng)
            for step in range(120):
                told = drawn_told(rng)
                before = records_of(plain)
                expected = reckoned(before, told)
                edit = rng.choice(both_ways(told))
                if isinstance(expected, dict):
                    edit.need(plain, step)
                    self.assertEqual(records_of(plain), before)
                    edit.on(plain, step)
                    self.assertEqual(records_of(plain), expected)
                    self.assertTrue(is_tree(expected))
                    met[told[0]] = met.get(told[0], 0) + 1
                else:
                    for asked in (edit.need, edit.on):
                        with self.assertRaises(errors.EditError) as caught:
                            asked(plain, step)
                        refusal = caught.exception
                        self.assertEqual((type(refusal), refusal.part, refusal.choice), expected + (step,))
                        self.assertEqual(records_of(plain), before)
                    met[told[0], expected[0]] = True
        self.assertTrue(all(met.get(word, 0) > 10 for word in CLASSES))
        self.assertGreaterEqual(len(met), 9 + 20)

    def test_an_edit_changes_no_other_book(self):
        plain = sample()
        other = plain_of(records_of(plain))
        Cut("a").on(plain)
        self.assertTrue(other.same(sample()))


class Names(unittest.TestCase):
    def test_the_classes_are_in_the_module(self):
        for name in ("Edit", "Put", "Write", "Splice", "Cell", "AddRow", "CutRow", "Cut", "Move", "Wrap"):
            self.assertTrue(issubclass(getattr(edits, name), Edit))


if __name__ == "__main__":
    unittest.main()
