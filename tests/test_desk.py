import random
import unittest

from helper import drawn_book, drawn_panel, drawn_set, drawn_told, members_of, odd_things
from manyleaf import errors
from manyleaf.conds import tell_choice, tell_cond
from manyleaf.desk import Desk
from manyleaf.errors import (BadCond, BadEdit, BadPage, BadPanel, Doubled, Far, IsLive, LeafError, Lost, NoChoice,
                             NoEdit, NoEditor, NoHolder, NoPart, NoRow, NotLive, Ring, StandsOn, TooLong, Unlike,
                             WrongKind)
from manyleaf.history import History
from manyleaf.kinds import kind_of_word
from manyleaf.pages import written
from manyleaf.tuples import edit_of

PANEL = "panel lang=en,fr,de size=big,small !lang=de&size=small"
PAGE = "\n".join([
    "1 a chapter 1 *", ": lang=en One", ": lang=fr,de Un", "2 p para 0 lang=en", ": size=big  big ", ": size=small ",
    "2 t table 5 *", ": * x|y/\\|\\\\|\\/", "1 z para 1000000000 lang=fr", ": * last",
])


def desk_with(*rows):
    desk = Desk()
    for row in rows:
        desk.say(row)
    return desk


def opened(*rows):
    return desk_with(PANEL, "open " + PAGE, "editor ann", *rows)


def told_by(desk, names=("-", "ann", "bob")):
    """All that a desk tells, to see whether something has changed."""
    told = []
    for row in [row + " " + name for name in names for row in ("page", "books", "live")]:
        try:
            told.append(desk.say(row))
        except LeafError as refusal:
            told.append((type(refusal), vars(refusal)))
    return told


class Case(unittest.TestCase):
    def refused(self, desk, row, error, **fields):
        before = told_by(desk)
        with self.subTest(row):
            with self.assertRaises(LeafError) as caught:
                desk.say(row)
            self.assertIs(type(caught.exception), error)
            self.assertEqual(vars(caught.exception), fields)
            self.assertEqual(told_by(desk), before)


class PanelRow(Case):
    def test_a_panel_begins_anew(self):
        desk = Desk()
        self.assertEqual(desk.say(PANEL), "ok")
        self.assertEqual(desk.say("page -"), "")
        self.assertEqual(desk.say("books -"), "lang=en&size=big *")
        desk = opened("editor bob")
        self.assertEqual(desk.say("panel a=x,y"), "ok")
        self.assertEqual(desk.say("books -"), "a=x *")
        self.refused(desk, "page ann", NoEditor, editor="ann")
        self.assertEqual(desk.say("editor ann"), "ok")

    def test_switches_and_rules_in_any_order(self):
        desk = desk_with("panel !b=x&a=y,x a=x,y !a=y b=y,x")
        self.assertEqual(desk.panel.switches(), [("a", ("x", "y")), ("b", ("y", "x"))])
        self.assertEqual(desk.panel.rules(), [{"b": ["x"], "a": ["y", "x"]}, {"a": ["y"]}])
        self.assertEqual(desk.say("lines 1 a para 0 a=y"), "1 - a=y&b=y/1 a=y&b=x/0")

    def test_what_is_nothing_told_as_a_switch_or_a_rule(self):
        for row in ("panel", "panel ", "panel  a=x,y", "panel a=x,y ", "panel a", "panel a=x=y", "panel a=x,y b",
                    "panel a=x,y&b=x,y",
                    "panel a=x,y !", "panel a=x,y !a", "panel a=x,y !a=x=y", "panel a=x,y !a=x&", "panel a=x,y !&a=x",
                    "panel a=x,y !a=x&a=y", "panel a=x,y !a=x&b", "panel *", "panel a=x,y -", "panel a=x,y !*",
                    "panel a=x,y !a=x|b=x",
                    "panel a=x,y !a=x&q=x&q=x", "panel a=x&y,z", "panel a&b=x,y", "panel &a=x,y", "panel a=x,y&"):
            self.refused(Desk(), row, NoRow)
            self.refused(opened(), row, NoRow)

    def test_what_makes_no_panel(self):
        for row in ("panel a=x", "panel a=", "panel =", "panel =x,y", "panel a=x,x", "panel a=x,y,z,w,v",
                    "panel A=x,y", "panel a=x,Y",
                    "panel a=x,", "panel !a=x", "panel a=x,y a=x,y", "panel a=x,y !b=x", "panel a=x,y !a=z",
                    "panel a=x,y !a=x,x",
                    "panel a=x,y !a=", "panel a=x,y !=x", "panel a=x,y !!a=x", "panel a=x,y" + " !a=x" * 9,
                    "panel " + " ".join(word + "=x,y" for word in "abcdef"),
                    "panel " + " ".join(word + "=x,y,z,w" for word in "abcde"),
                    "panel a=x|y,z", "panel a=x,y\n", "panel a!=x,y", "panel abcdefghi=x,y", "panel a=x,y !a=x\n"):
            self.refused(Desk(), row, BadPanel)
            self.refused(opened(), row, BadPanel)

    def test_rules_that_bar_every_choice(self):
        self.refused(opened(), "panel a=x,y !a=x !a=y", NoChoice)
        self.refused(Desk(), "panel a=x,y !a=x,y", NoChoice)
        self.refused(opened(), "panel a=x,y !a=x,y !b=x", BadPanel)
        self.refused(opened(), "panel a=x,y !a=x,y a", NoRow)
        self.refused(opened(), "panel a=x q", NoRow)

    def test_words_of_all_kinds_of_panels(self):
        self.assertEqual(desk_with("panel a=x,y" + " !a=x" * 8).panel.allowed(), 2)


class OpenRow(Case):
    def test_a_page_is_read(self):
        desk = opened("editor bob")
        self.assertEqual(desk.say("page -"), PAGE)
        self.assertEqual(desk.say("open 1 b para 0 *\n: * text with  blanks "), "ok")
        self.assertEqual(desk.say("page -"), "1 b para 0 *\n: * text with  blanks ")
        self.refused(desk, "page ann", NoEditor, editor="ann")
        self.assertEqual(desk.say("open "), "ok")
        self.assertEqual(desk.say("page -"), "")

    def test_what_is_no_page(self):
        for page, line, choice in (("x", 1, None), (" ", 1, None), ("1 a para 0 *", 1, 0), ("1 a para 0 -\n", 2, None),
                                   ("\n", 1, None),
                                   ("1 a para 0 *\n: * x\n1 a para 0 lang=fr", 3, 2)):
            self.refused(opened(), "open " + page, BadPage, line=line, choice=choice)
            self.refused(opened(), "lines " + page, BadPage, line=line, choice=choice)

    def test_the_blank_has_to_be_there(self):
        self.refused(opened(), "open", NoRow)
        self.refused(opened(), "lines", NoRow)
        self.refused(opened(), "open\n", NoRow)


class EditorRow(Case):
    def test_an_editor_begins_with_the_shared_book(self):
        desk = opened()
        self.assertEqual(desk.say("page ann"), PAGE)
        self.assertEqual(desk.say("live ann"), "")
        self.assertEqual(desk.say("editor bob"), "ok")

    def test_an_editor_that_is_there_already(self):
        self.refused(opened(), "editor ann", NoEditor, editor="ann")

    def test_names(self):
        for name in ("a", "abcdefgh", "edit", "panel"):
            self.assertEqual(opened().say("editor " + name), "ok")
        for name in ("", "-", "A", "abcdefghi", "a1", "a.b", "ann\n", "~", "*"):
            for row in ("editor ", "live ", "send "):
                self.refused(opened(), row + name, NoRow)
        for name in ("", "A", "--", "abcdefghi", "a1", "*"):
            for row in ("page ", "books "):
                self.refused(opened(), row + name, NoRow)


class EditRow(Case):
    def page_after(self, row, *rows):
        desk = opened(*rows)
        desk.say(row)
        return desk.say("page ann")

    def test_each_deed(self):
        deeds = [
            ("put n para a 3 some  text ", ("put", "n", "para", "a", 3, "some  text ")),
            ("put n para - 0 ", ("put", "n", "para", "", 0, "")),
            ("put n table - 0 a|b/\\||c", ("put", "n", "table", "", 0, (("a", "b"), ("|", "c")))),
            ("put n table - 0 ", ("put", "n", "table", "", 0, (("",),))),
            ("put n chapter a 1000000000 *", ("put", "n", "chapter", "a", 10 ** 9, "*")),
            ("write a  new ", ("write", "a", " new ")), ("write a ", ("write", "a", "")),
            ("splice a 1 0 x y", ("splice", "a", 1, 0, "x y")),
            ("splice a 0 1 ", ("splice", "a", 0, 1, "")), ("cell t 1 0 ", ("cell", "t", 1, 0, "")),
            ("cell t 0 1 a|b", ("cell", "t", 0, 1, "a|b")),
            ("addrow t 0 a\\||b", ("addrow", "t", 0, ("a|", "b"))), ("addrow t 2 |", ("addrow", "t", 2, ("", ""))),
            ("cutrow t 1", ("cutrow", "t", 1)),
            ("cut a", ("cut", "a")), ("move t - 3", ("move", "t", "", 3)), ("move t a 3", ("move", "t", "a", 3)),
            ("wrap a w The title", ("wrap", "a", "w", "The title")),
            ("wrap t w ", ("wrap", "t", "w", "")),
        ]
        for deed, told in deeds:
            with self.subTest(deed):
                desk = opened()
                self.assertEqual(desk.say("edit ann lang=en " + deed), "1")
                history = desk.editors["ann"]
                self.assertEqual(history.told(1), (told, 0b000011, 0b000011, True))
                expected = History(desk.common)
                expected.do(edit_of(told), 0b000011)
                self.assertEqual(desk.say("page ann"), written(expected.book_now()))
                self.assertEqual(desk.say("page -"), PAGE)

    def test_the_answer_is_the_number(self):
        desk = opened()
        self.assertEqual([desk.say("edit ann * write a x") for _ in range(11)],
                         [str(number) for number in range(1, 12)])

    def test_for_everybody_who_sees_the_part_so(self):
        desk = opened("edit ann ~lang=de write a neu")
        self.assertEqual(desk.editors["ann"].told(1)[1:3], (0b011100, 0b011100))
        desk = opened("edit ann ~lang=en&size=big cut p")
        self.assertEqual(desk.editors["ann"].told(1)[1:3], (0b000001, 0b000001))
        desk = opened("edit ann ~- put n para - 0 text")
        self.assertEqual(desk.editors["ann"].told(1)[1:3], (0b011111, 0b011111))
        desk = opened("edit ann ~lang=fr put n para a 0 text")
        self.assertEqual(desk.editors["ann"].told(1)[1:3], (0b011100, 0b011100))

    def test_alike_in_the_editors_own_book(self):
        desk = opened("edit ann lang=de write a Eins", "edit ann ~lang=de write a Erstes")
        self.assertEqual(desk.editors["ann"].told(2)[1:3], (0b010000, 0b010000))

    def test_refusals_of_64_and_of_65(self):
        self.refused(opened(), "edit ann ~* write a x", Unlike, part="a", one=0, other=2)
        self.refused(opened(), "edit ann ~lang=fr write p x", NoPart, part="p", choice=None)
        self.refused(opened(), "edit ann ~- write a x", NoPart, part="a", choice=None)
        self.refused(opened(), "edit ann ~lang=de&size=small write a x", NoPart, part="a", choice=None)
        self.refused(opened(), "edit ann lang=fr write p x", NoPart, part="p", choice=None)
        self.refused(opened(), "edit ann - put n para - 0 x", NoPart, part="", choice=None)
        self.refused(opened(), "edit ann * put z para - 0 x", Doubled, part="z", choice=2)
        self.refused(opened(), "edit ann ~* put z para - 0 x", Doubled, part="z", choice=2)
        self.refused(opened(), "edit ann * put n para z 0 x", NoHolder, part="z", choice=2)
        self.refused(opened(), "edit ann * move a q 0", Lost, part="q", choice=0)
        self.refused(opened(), "edit ann * move a p 0", Ring, part="a", choice=0)
        self.refused(opened(), "edit ann * write t x", WrongKind, part="t", choice=0)
        self.refused(opened(), "edit ann size=small splice a 3 0 x", Far, part="a", choice=3)
        self.refused(opened(), "edit ann * splice a 0 0 " + "x" * 58, TooLong, part="a", choice=0)
        self.refused(opened(), "edit ann ~* move a q 0", Unlike, part="a", one=0, other=2)

    def test_words_too_few_and_too_many(self):
        for row in ("edit", "edit ann", "edit ann *", "edit ann * ", "edit ann * put", "edit ann * put n para - 0",
                    "edit ann * put n para -",
                    "edit ann * write", "edit ann * write a", "edit ann * splice a 0 0", "edit ann * cell t 0 0",
                    "edit ann * addrow t 0",
                    "edit ann * cutrow t", "edit ann * cutrow t 0 ", "edit ann * cutrow t 0 0", "edit ann * cut",
                    "edit ann * cut a b", "edit ann * cut a ",
                    "edit ann * move t -", "edit ann * move t - 0 0", "edit ann * move t - 0 ", "edit ann * wrap a",
                    "edit ann * wrap a w",
                    "edit ann  * write a x", "edit  ann * write a x", "edit ann *  write a x", "edit ann * Write a x",
                    "edit ann * text a x",
                    "edit ann * cuts a", "edit ann * cut\na", "edit - * cut a", "edit Ann * cut a", "edit  * cut a",
                    "edit ann * -"):
            self.refused(opened(), row, NoRow)

    def test_words_that_are_no_numbers(self):
        for number in ("", "x", "-1", "01", "00", "+1", "1.0", "10000000000", "9" * 100, "\u0661", "0\n", "1_0"):
            for deed in ("put n para - {} x", "splice a {} 0 x", "splice a 0 {} x", "cell t {} 0 x", "cell t 0 {} x",
                         "addrow t {} a|b",
                         "cutrow t {}", "move t - {}"):
                self.refused(opened(), "edit ann * " + deed.replace("{}", number), NoRow)
                self.refused(opened(), "edit ann nonsense " + deed.replace("{}", number), NoRow)
            for row in ("undo ann ", "redo ann "):
                self.refused(opened(), row + number, NoRow)

    def test_what_is_no_condition(self):
        for cond in ("", "lang", "~", "~~*", "~lang", "**", "lang=it", "-|*", "*\n", "!lang=en", "~*~"):
            self.refused(opened(), f"edit ann {cond} cut a", BadCond)

    def test_what_makes_no_edit(self):
        for deed in ("put N para - 0 x", "put n Para - 0 x", "put n  - 0 x", "put n para  0 x", "put n para A 0 x",
                     "put n para - 9999999999 x", "put n para - 1000000001 x",
                     "put n para - 0 " + "x" * 61, "put n para - 0 a\nb", "put n para - 0 100%",
                     "put n table - 0 a|b/c", "put n table - 0 \\", "put n nokind - 0 \\",
                     "put  para - 0 x", "write - x", "write  x", "write A x", "write a %", "write a " + "x" * 61,
                     "write a x\ny", "splice - 0 0 x", "splice a 9999999999 0 x",
                     "splice a 0 0 \n", "cell - 0 0 x", "cell t 0 0 %", "addrow t 0 a/b", "addrow t 0 \\",
                     "addrow t 0 1|2|3|4|5|6|7", "addrow t 0 %", "addrow - 0 a", "cutrow - 0",
                     "cutrow t 1000000001", "cut -", "cut ", "cut A", "cut a\n", "move - - 0", "move t  0",
                     "move  - 0", "move t T 0", "move t -- 0", "wrap a - x", "wrap a W x",
                     "wrap - w x", "wrap a w %", "wrap  w x", "wrap a  x"):
            self.refused(opened(), "edit ann * " + deed, BadEdit)

    def test_the_order_of_refusals(self):
        self.refused(opened(), "edit bob nonsense cut A b", NoRow)
        self.refused(opened(), "edit bob nonsense cut A", BadCond)
        self.refused(opened(), "edit bob * cut A", BadEdit)
        self.refused(opened(), "edit bob * cut q", NoEditor, editor="bob")
        self.refused(opened(), "edit bob ~* cut a", NoEditor, editor="bob")
        self.refused(opened(), "edit ann ~* write t x", WrongKind, part="t", choice=0)
        self.refused(opened(), "edit ann ~* write q x", NoPart, part="q", choice=None)


class UndoRow(Case):
    def test_undo_redo_and_live(self):
        desk = opened("edit ann * write a one", "edit ann * write a two", "edit ann lang=fr write z three")
        self.assertEqual(desk.say("live ann"), "1 2 3")
        self.assertEqual(desk.say("undo ann 2"), "ok")
        self.assertEqual(desk.say("live ann"), "1 3")
        self.assertIn(": * one", desk.say("page ann"))
        self.assertEqual(desk.say("redo ann 2"), "ok")
        self.assertIn(": * two", desk.say("page ann"))
        for number in (3, 2, 1):
            desk.say(f"undo ann {number}")
        self.assertEqual(desk.say("live ann"), "")
        self.assertEqual(desk.say("page ann"), PAGE)

    def test_refusals(self):
        desk = opened("edit ann lang=fr put n chapter - 0 x", "edit ann size=small put m para n 0 x")
        self.refused(desk, "undo ann 1", StandsOn, number=2, choice=3)
        self.refused(desk, "redo ann 1", IsLive, number=1)
        for word in ("undo", "redo"):
            self.refused(desk, word + " ann 0", NoEdit, number=0)
            self.refused(desk, word + " ann 3", NoEdit, number=3)
            self.refused(desk, word + " ann 9999999999", NoEdit, number=9999999999)
            self.refused(desk, word + " bob 1", NoEditor, editor="bob")
            for row in (" ann", " ann 1 ", " ann 1 2", "", " ann ", "  1", " - 1", " ann  1"):
                self.refused(desk, word + row, NoRow)
        desk.say("undo ann 2")
        self.refused(desk, "undo ann 2", NotLive, number=2)
        self.refused(desk, "live bob", NoEditor, editor="bob")
        for row in ("live", "live ", "live ann ", "live ann 1", "live -"):
            self.refused(desk, row, NoRow)


class SendRow(Case):
    def test_the_shared_book_and_a_history_that_begins_anew(self):
        desk = opened("editor bob", "edit ann lang=en write a Ann", "edit bob lang=fr,de write a Bob")
        self.assertEqual(desk.say("send ann"), "")
        self.assertEqual(desk.say("live ann"), "")
        self.assertIn(": lang=en Ann\n: lang=fr,de Un\n", desk.say("page -"))
        self.assertEqual(desk.say("page ann"), desk.say("page -"))
        self.assertEqual(desk.say("live bob"), "1")
        self.assertIn(": lang=en One\n: lang=fr,de Bob\n", desk.say("page bob"))
        self.assertEqual(desk.say("send bob"), "")
        self.assertIn(": lang=en Ann\n: lang=fr,de Bob\n", desk.say("page -"))
        self.assertIn(": lang=en Ann\n: lang=fr,de Un\n", desk.say("page ann"))
        self.refused(desk, "undo ann 1", NoEdit, number=1)
        self.assertEqual(desk.say("edit ann * cut t"), "1")

    def test_two_editors_who_send_in_turn_with_clashes(self):
        desk = opened("editor bob", "edit ann * write a Ann", "edit ann * cell t 0 1 ann", "edit ann lang=en cut p",
                      "edit bob size=big write a Bob", "edit bob * cell t 0 1 bob", "edit bob * move p - 3")
        self.assertEqual(desk.say("send ann"), "")
        clashes = "a/content/size=big p/gone/lang=en t/cell.0.1/*"
        self.assertEqual(desk.say("send bob"), clashes)
        self.assertIn("1 p para 3 lang=en", desk.say("page -"))
        self.assertEqual(desk.say("send ann"), "")
        self.assertEqual(desk.say("page ann"), desk.say("page bob"))

    def test_sending_without_edits(self):
        desk = opened("editor bob", "edit bob * cut a", "send bob")
        self.assertEqual(desk.say("send ann"), "")
        self.assertEqual(desk.say("page ann"), "1 z para 1000000000 lang=fr\n: * last")

    def test_an_edit_that_was_taken_back_is_not_sent(self):
        desk = opened("edit ann * cut a", "edit ann lang=fr write z new", "undo ann 1")
        self.assertEqual(desk.say("send ann"), "")
        self.assertEqual(desk.say("page -"), PAGE.replace("last", "new"))

    def test_refusals(self):
        self.refused(opened(), "send bob", NoEditor, editor="bob")
        for row in ("send", "send ", "send ann ", "send ann bob", "send -"):
            self.refused(opened(), row, NoRow)


class TellingRows(Case):
    def test_page(self):
        desk = opened("edit ann lang=fr cut z")
        self.assertEqual(desk.say("page -"), PAGE)
        self.assertEqual(desk.say("page ann"), "\n".join(PAGE.split("\n")[:-2]))

    def test_view(self):
        desk = opened("edit ann * cut t")
        self.assertEqual(desk.say("view - lang=en"), "\n".join([
            "1 a chapter 1 *", ": * One", "2 p para 0 *", ": size=big  big ", ": size=small ", "2 t table 5 *",
            ": * x|y/\\|\\\\|\\/"]))
        self.assertEqual(desk.say("view ann lang=en&size=big|lang=fr"), "\n".join([
            "1 a chapter 1 *", ": lang=en One", ": lang=fr Un", "2 p para 0 lang=en", ": *  big ",
            "1 z para 1000000000 lang=fr", ": * last"]))
        self.assertEqual(desk_with(PANEL).say("view - *"), "")

    def test_view_refusals(self):
        self.refused(opened(), "view - -", NoChoice)
        self.refused(opened(), "view ann lang=de&size=small", NoChoice)
        self.refused(opened(), "view bob -", NoEditor, editor="bob")
        self.refused(opened(), "view bob x", BadCond)
        self.refused(opened(), "view B x", NoRow)
        for row in ("view", "view -", "view - * ", "view - lang=en |lang=fr", "view  *", "view ann lang=en lang=fr"):
            self.refused(opened(), row, NoRow)
        for row in ("view - ", "view - *\n", "view - lang=en\n|lang=fr", "view - ~*"):
            self.refused(opened(), row, BadCond)

    def test_read(self):
        desk = opened("edit ann * cut t")
        self.assertEqual(desk.say("read - lang=en&size=big"),
                         "1 a chapter 1 One\n2 p para 0  big \n2 t table 5 x|y/\\|\\\\|\\/")
        self.assertEqual(desk.say("read ann size=small&lang=en"), "1 a chapter 1 One\n2 p para 0 ")
        self.assertEqual(desk.say("read ann lang=fr&size=big|size=big&lang=fr"),
                         "1 a chapter 1 Un\n1 z para 1000000000 last")
        self.assertEqual(desk_with(PANEL).say("read - lang=en&size=big"), "")

    def test_read_refusals(self):
        for cond in ("*", "-", "lang=en", "lang=en&size=big,small", "lang=de&size=small",
                     "lang=en&size=big|lang=fr&size=big"):
            self.refused(opened(), "read - " + cond, NoChoice)
            self.refused(opened(), "read bob " + cond, NoEditor, editor="bob")
        self.refused(opened(), "read bob lang", BadCond)
        for row in ("read", "read -", "read - * ", "read B lang=en&size=big", "read - lang=en & size=big"):
            self.refused(opened(), row, NoRow)
        for row in ("read - ", "read - lang=en&size=big\n"):
            self.refused(opened(), row, BadCond)

    def test_books(self):
        desk = opened("edit ann * cut p", "edit ann * cut z")
        self.assertEqual(desk.say("books -"), "\n".join([
            "lang=en&size=big lang=en&size=big", "lang=en&size=small lang=en&size=small", "lang=fr&size=big lang=fr",
            "lang=de&size=big lang=de"]))
        self.assertEqual(desk.say("books ann"), "lang=en&size=big lang=en\nlang=fr&size=big lang=fr,de")
        self.refused(desk, "books bob", NoEditor, editor="bob")
        for row in ("books", "books ", "books - -", "books ann "):
            self.refused(desk, row, NoRow)

    def test_lines(self):
        desk = opened()
        self.assertEqual(desk.say("lines "), "")
        self.assertEqual(desk.say("lines " + PAGE), "\n".join([
            "1 lang=en&size=big", "4 lang=en&size=big", "7 lang=en&size=big", "9 lang=fr&size=big"]))
        page = "\n".join(["1 a chapter 0 lang=de&size=small", "2 b para 0 *", "2 c para 0 lang=en",
                          "1 d para 0 size=small", ": *  x "])
        self.assertEqual(desk.say("lines " + page),
                         "1 - lang=de&size=small/0\n2 - lang=de&size=small/0\n3 -\n4 lang=en&size=small")
        self.assertEqual(desk.say("page -"), PAGE)


class NoRows(Case):
    def test_what_is_no_text(self):
        for thing in odd_things() + [["page", "-"], ("page -",), b"page -"]:
            self.refused(opened(), thing, NoRow)
            self.refused(Desk(), thing, NoRow)

    def test_first_words_that_are_none(self):
        for row in ("", " ", "Page -", "pages -", "page-", " page -", "\npage -", "quit", "help", "page\n-", "-",
                    "put a", "cut a", "panels a=x,y"):
            self.refused(opened(), row, NoRow)

    def test_every_row_but_panel_where_there_is_no_panel(self):
        for row in ("open " + PAGE, "open ", "open x", "editor ann", "edit ann * cut a", "edit ann x cut A",
                    "undo ann 1", "redo ann 1", "live ann", "send ann", "page -",
                    "view - *", "view - x", "read - *", "books -", "lines ", "lines x"):
            desk = Desk()
            with self.assertRaises(NoRow):
                desk.say(row)
            self.assertEqual(desk.say("panel a=x,y"), "ok")
            self.assertEqual(desk.say("page -"), "")

    def test_a_refused_panel_leaves_none(self):
        desk = Desk()
        self.assertRaises(BadPanel, desk.say, "panel a=x")
        self.assertRaises(NoRow, desk.say, "page -")

    def test_two_desks_share_nothing(self):
        one, other = opened(), opened()
        one.say("edit ann * cut a")
        one.say("send ann")
        self.assertEqual(other.say("page -"), PAGE)
        self.assertEqual(other.say("page ann"), PAGE)


def row_of(told):
    """The deed of a row edit that tells an edit."""
    word, things = told[0], list(told[1:])
    if word == "put":
        things[4] = kind_of_word(told[2]).shown(told[5])
        things[2] = things[2] or "-"
    elif word == "addrow":
        things[2] = kind_of_word("table").shown((told[3],))
    elif word == "move":
        things[1] = things[1] or "-"
    return " ".join([word] + [str(thing) for thing in things])


class Drawn(unittest.TestCase):
    def test_drawn_rows_against_histories(self):
        rng = random.Random(33)
        done = 0
        for _ in range(25):
            panel = drawn_panel(rng, most=10)
            desk = Desk()
            words = [word + "=" + ",".join(settings) for word, settings in panel.switches()]
            words += ["!" + "&".join(word + "=" + ",".join(told) for word,
                                     told in rule.items()) for rule in panel.rules()]
            desk.say("panel " + " ".join(words))
            self.assertEqual(desk.panel.rules(), panel.rules())
            book = drawn_book(rng, panel)
            desk.say("open " + written(book))
            desk.say("editor ann")
            history = History(book)
            for _ in range(25):
                told, reach = drawn_told(rng), drawn_set(rng, panel)
                row = "edit ann " + tell_cond(panel, reach, panel.all_choices()) + " " + row_of(told)
                try:
                    number = history.do(edit_of(told), reach)
                except errors.EditError as refusal:
                    with self.assertRaises(type(refusal)) as caught:
                        desk.say(row)
                    self.assertEqual(vars(caught.exception), vars(refusal))
                else:
                    self.assertEqual(desk.say(row), str(number))
                    done += 1
                self.assertEqual(desk.say("page ann"), written(history.book_now()))
            for number in members_of(panel.allowed()):
                lines = history.book_now().plain(number).lines()
                shown = ["{} {} {} {} ".format(*line[:4]) + kind_of_word(line[2]).shown(line[4]) for line in lines]
                self.assertEqual(desk.say("read ann " + tell_choice(panel, number)), "\n".join(shown))
        self.assertGreater(done, 50)


if __name__ == "__main__":
    unittest.main()
