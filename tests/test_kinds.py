import itertools
import random
import unittest

from helper import TEXTS, drawn_content, odd_things
from manyleaf.kinds import Chapter, Kind, Para, Table, kind_of_word

KINDS = {"chapter": Chapter, "para": Para, "table": Table}


class Words(unittest.TestCase):
    def test_the_three_kinds(self):
        for word, kind in KINDS.items():
            self.assertTrue(issubclass(kind, Kind))
            self.assertEqual(kind().word(), word)
            self.assertIs(kind().holds(), word == "chapter")
            self.assertIs(type(kind_of_word(word)), kind)

    def test_words_of_no_kind(self):
        for word in ("", " ", "Chapter", "chapters", "chapte", "para ", "tables", "kind", "table\n", "text", "a"):
            self.assertIsNone(kind_of_word(word))

    def test_two_kinds_are_two_objects(self):
        self.assertIsNot(kind_of_word("para"), kind_of_word("para"))


class Fitting(unittest.TestCase):
    def test_texts(self):
        fine = ["", " ", "~", "x" * 59, "x" * 60, "a|b/c\\d", ": * -"]
        bad = ["x" * 61, "x" * 1000, "%", "100%", "a\nb", "\t", "caf\xe9", "\x7f"]
        for kind in (Chapter(), Para()):
            for text in fine:
                self.assertIs(kind.fits(text), True)
            for text in bad:
                self.assertIs(kind.fits(text), False)
            for thing in odd_things() + [("a",), (("a",),), ["a"]]:
                self.assertIs(kind.fits(thing), isinstance(thing, str))

    def test_tables_of_all_sizes(self):
        for rows, columns in itertools.product(range(9), range(9)):
            table = (("x",) * columns,) * rows
            self.assertIs(Table().fits(table), 1 <= rows <= 6 and 1 <= columns <= 6)

    def test_cells(self):
        for cell in ["", " ", "x" * 60, "a|b/c\\d"]:
            self.assertIs(Table().fits((("a", cell), ("b", "c"))), True)
            self.assertIs(Table().fits((("a", "b"), ("b", cell))), True)
        for cell in ["x" * 61, "%", "a\nb"] + [thing for thing in odd_things() if not isinstance(thing, str)]:
            self.assertIs(Table().fits((("a", cell), ("b", "c"))), False)
            self.assertIs(Table().fits((("a", "b"), ("b", cell))), False)

    def test_rows_of_unlike_length(self):
        for table in ((("a",), ("a", "b")), (("a", "b"), ("a",)), (("a",), ()), ((), ("a",)), ((), ()), ((),), ()):
            self.assertIs(Table().fits(table), False)

    def test_lists_in_the_place_of_tuples(self):
        for table in ([("a",)], (["a"],), [["a"]], (("a",), ["a"]), {("a",): 1}, {"a": 1}):
            self.assertIs(Table().fits(table), False)

    def test_things_of_other_kinds(self):
        for thing in odd_things() + ["a", "a|b", ("a",), ("a", "b"), ("ab", "cd")]:
            self.assertIs(Table().fits(thing), False)


class Showing(unittest.TestCase):
    def test_texts(self):
        for kind in (Chapter(), Para()):
            for text in TEXTS:
                self.assertEqual(kind.shown(text), text)
                self.assertEqual(kind.read_shown(text), text)
            for text in ["x" * 61, "100%", "a\nb", "caf\xe9"]:
                self.assertIsNone(kind.read_shown(text))

    def test_tables_by_hand(self):
        shown = {
            "": (("",),), "a": (("a",),), "|": (("", ""),), "/": (("",), ("",)), "a|b": (("a", "b"),),
            "a/b": (("a",), ("b",)), "a|b/c|d": (("a", "b"), ("c", "d")), "\\|": (("|",),), "\\/": (("/",),),
            "\\\\": (("\\",),), "\\\\|\\\\": (("\\", "\\"),), "\\\\\\|": (("\\|",),), "\\\\\\\\": (("\\\\",),),
            "a\\|b|c\\/d/\\\\|e": (("a|b", "c/d"), ("\\", "e")), " | /~| ": ((" ", " "), ("~", " ")),
            "|||||/|||||/|||||/|||||/|||||/|||||": ((("",) * 6),) * 6,
        }
        for text, table in shown.items():
            self.assertEqual(Table().shown(table), text)
            self.assertEqual(Table().read_shown(text), table)

    def test_texts_that_show_no_table(self):
        for text in ("\\", "a\\", "\\a", "\\ ", "a|\\", "\\\\\\", "a|b/c", "a/b|c", "|/", "/|", "||||||", "//////",
                     "100%",
                     "a\nb", "x" * 61, "a|" + "x" * 61, "\\\n", "\\n", "a\\b|c", "\u2028", "\\|\\", "a/b/c|d",
                     "x" * 10 ** 5):
            with self.subTest(text):
                self.assertIsNone(Table().read_shown(text))

    def test_the_longest_cells(self):
        for cell in ("x" * 60, "\\" * 60, "|" * 60):
            table = ((cell,) * 6,) * 6
            self.assertEqual(Table().read_shown(Table().shown(table)), table)
        self.assertIsNone(Table().read_shown("\\|" * 61))

    def test_drawn_tables_read_back_and_unlike_ones_are_shown_unlike(self):
        rng = random.Random(5)
        seen = {}
        for _ in range(400):
            table = drawn_content(rng, "table")
            text = Table().shown(table)
            self.assertEqual(Table().read_shown(text), table)
            self.assertEqual(seen.setdefault(text, table), table)

    def test_each_short_text_reads_as_none_or_is_shown_so(self):
        for size in range(6):
            for signs in itertools.product("a\\|/", repeat=size):
                text = "".join(signs)
                table = Table().read_shown(text)
                if table is not None:
                    self.assertTrue(Table().fits(table))
                    self.assertEqual(Table().shown(table), text)
                else:
                    self.assertTrue(shows_none(text))


def shows_none(text):
    """A text over a, stroke, bar and backstroke that is the way in which no table is shown."""
    rest = text.replace("\\\\", "a").replace("\\|", "a").replace("\\/", "a") if "\\" in text else text
    if "\\" in rest or ends_in_stroke(text):
        return True
    rows = rest.split("/")
    return len({row.count("|") for row in rows}) > 1 or len(rows) > 6 or rows[0].count("|") > 5


def ends_in_stroke(text):
    strokes = len(text) - len(text.rstrip("\\"))
    return strokes % 2 == 1


class Joining(unittest.TestCase):
    def joined(self, kind, base, one, other, content, words):
        for first, second in ((one, other), (other, one)):
            told = kind.joined(base, first, second)
            self.assertEqual(told, (content, words))
            self.assertIs(type(told), tuple)
            self.assertIs(type(told[1]), list)

    def test_texts(self):
        for kind in (Chapter(), Para()):
            self.joined(kind, "a", "a", "a", "a", [])
            self.joined(kind, "a", "b", "b", "b", [])
            self.joined(kind, "a", "b", "a", "b", [])
            self.joined(kind, "a", "b", "c", "a", ["content"])
            self.joined(kind, "", "b", "", "b", [])
            self.joined(kind, "a", "", "c", "a", ["content"])

    def test_tables_as_a_whole(self):
        a, b, c = (("a", "b"),), (("a", "b"), ("c", "d")), (("x",),)
        self.joined(Table(), a, a, a, a, [])
        self.joined(Table(), a, b, b, b, [])
        self.joined(Table(), a, a, b, b, [])
        self.joined(Table(), a, b, c, a, ["content"])
        self.joined(Table(), b, a, c, b, ["content"])
        self.joined(Table(), b, (("x", "b"), ("c", "d")), a, b, ["content"])
        self.joined(Table(), a, (("x", "b"),), b, a, ["content"])
        self.joined(Table(), a, (("x", "b", "c"),), (("y", "b", "c"),), a, ["content"])
        self.joined(Table(), a, (("x",), ("b",)), (("a", "y"),), a, ["content"])

    def test_tables_cell_by_cell(self):
        base = (("a", "b"), ("c", "d"))
        self.joined(Table(), base, (("x", "b"), ("c", "d")), (("a", "b"), ("c", "y")), (("x", "b"), ("c", "y")), [])
        self.joined(Table(), base, (("x", "b"), ("c", "d")), (("y", "b"), ("c", "z")), (("a", "b"), ("c", "z")),
                    ["cell 0 0"])
        self.joined(Table(), base, (("x", "q"), ("c", "1")), (("y", "q"), ("w", "2")), (("a", "q"), ("w", "d")),
                    ["cell 0 0", "cell 1 1"])
        self.joined(Table(), base, (("1", "2"), ("3", "4")), (("5", "6"), ("7", "8")), base,
                    ["cell 0 0", "cell 0 1", "cell 1 0", "cell 1 1"])

    def test_the_words_of_the_greatest_table(self):
        base, one, other = [((sign,) * 6,) * 6 for sign in "abc"]
        words = [f"cell {row} {column}" for row in range(6) for column in range(6)]
        self.joined(Table(), base, one, other, base, words)

    def test_a_text_is_not_joined_cell_by_cell(self):
        self.joined(Para(), "a|b", "x|b", "a|y", "a|b", ["content"])

    def test_drawn_tables(self):
        rng = random.Random(6)
        for _ in range(500):
            three = [tuple(tuple(rng.choice("ab") for _ in range(2)) for _ in range(2)) for _ in range(3)]
            base, one, other = three
            content, words = Table().joined(base, one, other)
            for row, column in itertools.product(range(2), range(2)):
                cells = [table[row][column] for table in three]
                changed = [cell for cell in cells[1:] if cell != cells[0]]
                clash = len(changed) == 2 and changed[0] != changed[1]
                self.assertEqual(f"cell {row} {column}" in words, clash)
                self.assertEqual(content[row][column], cells[0] if clash or not changed else changed[0])


if __name__ == "__main__":
    unittest.main()
