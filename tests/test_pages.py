import random
import unittest

from helper import LANG, SIZE, drawn_book, drawn_panel, members_of, plain_of, set_of, small_panels, states_of
from manyleaf.book import Book, gathered
from manyleaf.conds import read_cond, tell_cond
from manyleaf.errors import BadCond, BadPage
from manyleaf.kinds import kind_of_word
from manyleaf.outline import outline
from manyleaf.pages import read_page, shown_lines, written
from manyleaf.panel import Panel
from manyleaf.words import is_name

PANEL = Panel([LANG, SIZE], [{"lang": ["de"], "size": ["small"]}])
PAGE = """1 a chapter 5 *
: lang=en One
: lang=fr,de Un
2 t table 0 size=big
: * x|y/\\||
2 p para 10 lang=en
: size=big  two  blanks 
: size=small 
1 p para 1000000000 lang=fr
: * : * text"""


class Written(unittest.TestCase):
    def test_by_hand(self):
        base = {"a": ("chapter", "", 5, "One")}
        table = {"t": ("table", "a", 0, (("x", "y"), ("|", "")))}
        french = {"a": ("chapter", "", 5, "Un"), "p": ("para", "", 10 ** 9, ": * text")}
        book = gathered(PANEL, [
            (0b000001, plain_of({**base, **table, "p": ("para", "a", 10, " two  blanks ")})),
            (0b000010, plain_of({**base, "p": ("para", "a", 10, "")})),
            (0b000100, plain_of({**french, **table})),
            (0b001000, plain_of(french)),
            (0b010000, plain_of({"a": ("chapter", "", 5, "Un"), **table})),
        ])
        self.assertEqual(written(book), PAGE)
        self.assertTrue(read_page(PANEL, PAGE).same(book))

    def test_a_book_that_reads_nothing(self):
        for panel in small_panels():
            self.assertEqual(written(Book(panel)), "")
            self.assertTrue(read_page(panel, "").same(Book(panel)))
            self.assertEqual(shown_lines(panel, ""), [])

    def test_written_as_the_words_tell_and_read_back(self):
        rng = random.Random(15)
        for _ in range(150):
            panel = drawn_panel(rng)
            book = drawn_book(rng, panel)
            page = written(book)
            self.assertEqual(page, written_by_words(book))
            again = read_page(panel, page)
            self.assertTrue(again.same(book))
            self.assertEqual(written(again), page)
            self.assertTrue(read_by_words(panel, page)[0] == states_of(book))

    def test_books_that_read_alike_are_written_alike(self):
        rng = random.Random(16)
        for _ in range(60):
            panel = drawn_panel(rng)
            book = drawn_book(rng, panel)
            rows = [(2 ** number, book.plain(number)) for number in members_of(panel.allowed())]
            rng.shuffle(rows)
            self.assertEqual(written(gathered(panel, rows)), written(book))

    def test_books_that_read_unlike_are_written_unlike(self):
        rng = random.Random(17)
        pages = {}
        for _ in range(200):
            book = drawn_book(rng, PANEL, most=3)
            known = pages.setdefault(written(book), book)
            self.assertTrue(known.same(book))


def written_by_words(book):
    panel = book.panel
    lines, above = [], {0: panel.allowed()}
    for depth, name, kind, rank, choices, contents in outline(book, panel.allowed()):
        lines.append(" ".join([str(depth), name, kind, str(rank), tell_cond(panel, choices, above[depth - 1])]))
        above[depth] = choices
        for having, content in contents:
            lines.append(": " + tell_cond(panel, having, choices) + " " + kind_of_word(kind).shown(content))
    return "\n".join(lines)


class Bad(Exception):
    pass


def read_by_words(panel, text):
    """Points 53, 54 and 56 by their words, over lists of choices: the states by choice, and the lines shown."""
    allowed = members_of(panel.allowed())
    states = {number: {} for number in allowed}
    parts = []

    def look_back():
        if parts:
            last = parts[-1]
            for number in last["seen"]:
                if number not in last["texts"]:
                    raise Bad(last["line"], number)

    for line, row in enumerate(text.split("\n") if text else [], 1):
        if row[:1] == ":":
            add_content(panel, parts, line, row)
        else:
            look_back()
            parts.append(part_of(panel, parts, line, row, allowed))
    look_back()
    for part in parts:
        for number in part["seen"]:
            parent = part["above"]["name"] if part["above"] else ""
            states[number][part["name"]] = (part["kind"], parent, part["rank"], part["texts"][number])
    shown = []
    for part in parts:
        paper = [] if part["seen"] else [(number, panel.barred(number)) for number in part["taken"]]
        shown.append((part["line"], part["seen"][0] if part["seen"] else None, paper))
    return states, shown


def add_content(panel, parts, line, row):
    pieces = row.split(" ", 2)
    if not parts or len(pieces) < 3 or pieces[0] != ":":
        raise Bad(line, None)
    part = parts[-1]
    choices = cond_of(panel, line, pieces[1])
    content = kind_of_word(part["kind"]).read_shown(pieces[2])
    if content is None:
        raise Bad(line, None)
    for number in part["seen"]:
        if number in choices and number in part["texts"]:
            raise Bad(line, number)
    part["texts"].update({number: content for number in part["seen"] if number in choices})


def cond_of(panel, line, text):
    try:
        return members_of(read_cond(panel, text))
    except BadCond:
        raise Bad(line, None) from None


def is_number(text):
    return text != "" and all(sign in "0123456789" for sign in text) and (text == "0" or text[0] != "0")


def part_of(panel, parts, line, row, allowed):
    words = row.split(" ")
    if len(words) != 5 or not is_number(words[0]) or len(words[0]) > 4 or not is_name(words[1]):
        raise Bad(line, None)
    depth = int(words[0])
    most = parts[-1]["depth"] + 1 if parts else 1
    if not 1 <= depth <= most or words[2] not in ("chapter", "para", "table"):
        raise Bad(line, None)
    if not is_number(words[3]) or len(words[3]) > 10 or int(words[3]) > 10 ** 9:
        raise Bad(line, None)
    choices = cond_of(panel, line, words[4])
    above = [part for part in parts if part["depth"] == depth - 1][-1] if depth > 1 else None
    if above and above["kind"] != "chapter":
        raise Bad(line, None)
    taken = [number for number in choices if not above or number in above["taken"]]
    seen = [number for number in taken if number in allowed]
    for number in seen:
        if any(part["name"] == words[1] and number in part["seen"] for part in parts):
            raise Bad(line, number)
    return {"line": line, "depth": depth, "name": words[1], "kind": words[2], "rank": int(words[3]), "above": above,
            "taken": taken, "seen": seen, "texts": {}}


class Read(unittest.TestCase):
    def test_free_forms_of_condition_and_order(self):
        page = "\n".join([
            "1 z para 7 lang=fr|lang=en&size=small,big|lang=en", ": lang=fr fr", ": lang=en,de|size=big&lang=en en",
            "1 a chapter 3 size=small,big", ": * A",
            "2 b para 9 lang=de|size=big|lang=de", ": lang=en,fr,de B",
            "2 c para 0 -", "1 d chapter 0 lang=de&size=small", ": - never", "2 e chapter 0 *", "3 f para 0 *",
        ])
        book = read_page(PANEL, page)
        self.assertEqual(book.names(), ["a", "b", "z"])
        self.assertEqual(book.where("z"), 0b001111)
        self.assertEqual(book.contents("z"), [(0b000011, "en"), (0b001100, "fr")])
        self.assertEqual(book.where("a"), 0b011111)
        self.assertEqual(book.places("b"), [(0b010101, ("para", "a", 9))])

    def test_lines_without_choices_add_nothing(self):
        for page in ("1 a para 0 -", "1 a para 0 lang=de&size=small", "1 a para 0 -\n: * x\n: * y",
                     "1 a chapter 0 -\n2 a chapter 0 *\n3 a table 0 *\n: - x"):
            self.assertTrue(read_page(PANEL, page).same(Book(PANEL)))

    def test_one_name_at_two_places(self):
        page = "1 a para 0 lang=en\n: * x\n1 b chapter 0 *\n: * y\n2 a table 0 lang=fr,de\n: * x|y"
        book = read_page(PANEL, page)
        self.assertEqual(book.places("a"), [(0b000011, ("para", "", 0)), (0b011100, ("table", "b", 0))])

    def test_lines_beneath_the_last_one_of_one_depth_less(self):
        lines = ["1 a chapter 0 *", "2 b chapter 0 *", "3 c para 0 *", "2 d para 0 *", "1 e para 0 *"]
        page = "\n".join([line + "\n: * x" for line in lines])
        plain = read_page(PANEL, page).plain(0)
        self.assertEqual([plain.parent_of(name) for name in "abcde"], ["", "a", "b", "a", ""])

    def test_contents_with_blanks_and_marks(self):
        page = "1 a para 0 *\n: *  : * x "
        self.assertEqual(read_page(PANEL, page).contents("a"), [(0b011111, " : * x ")])
        self.assertEqual(read_page(PANEL, "1 a para 0 *\n: * ").contents("a"), [(0b011111, "")])
        self.assertEqual(read_page(PANEL, "1 a table 0 *\n: * ").contents("a"), [(0b011111, (("",),))])

    def test_ranks_at_their_bounds(self):
        for rank in (0, 1, 10, 10 ** 9):
            self.assertEqual(read_page(PANEL, f"1 a para {rank} *\n: * ").places("a"), [(0b011111, ("para", "", rank))])

    def test_a_deep_page(self):
        lines = []
        for depth in range(1, 301):
            lines += [f"{depth} n{depth} chapter 0 *", ": * x"]
        book = read_page(PANEL, "\n".join(lines))
        self.assertEqual([line[0] for line in book.plain(0).lines()], list(range(1, 301)))
        self.assertEqual(written(book), "\n".join(lines))


class Faults(unittest.TestCase):
    def refused(self, page, line, choice, panel=PANEL):
        with self.subTest(page):
            for asked in (read_page, shown_lines):
                with self.assertRaises(BadPage) as caught:
                    asked(panel, page)
                self.assertIs(type(caught.exception), BadPage)
                self.assertEqual((caught.exception.line, caught.exception.choice), (line, choice))

    def test_part_lines_that_are_not_five_words(self):
        for line in ("", " ", "1", "1 a para 0", "1 a para 0 * ", " 1 a para 0 *", "1  a para 0 *", "1 a para 0  *",
                     "1 a para 0 * x",
                     "1\ta para 0 *", "a", "    ", "1 a para 0 * :", "\r", "1 a para 0 *\r", "1 a para 0\x0b*",
                     "1 a para\u2028 0 *"):
            self.refused(line if line else "\n", 1, None)
            self.refused("1 z para 0 -\n" + line, 2, None)

    def test_a_line_feed_at_the_end(self):
        self.refused("\n", 1, None)
        self.refused(PAGE + "\n", 11, None)
        self.refused("1 a para 0 *\n: * x\n", 3, None)
        self.refused("1 a para 0 *\n", 1, 0)
        self.refused("1 a para 0 -\n", 2, None)

    def test_depths(self):
        for depth in ("0", "2", "3", "01", "1.", "+1", "-1", "", "one", "1_0", "\u0661", "\uff11", "\xb9", "1" * 5000,
                      "0" * 5000 + "1",
                      "1e0", "00", "1\n", "9" * 20, "0x1", "1,"):
            if "\n" not in depth:
                self.refused(f"{depth} a para 0 *", 1, None)
        for depth in ("0", "3", "4", "02", "2" * 5000, "10", "20", "\u0662", "12"):
            self.refused(f"1 a chapter 0 *\n: * x\n{depth} b para 0 *", 3, None)

    def test_a_great_depth(self):
        lines = [f"{depth} n chapter 0 -" for depth in range(1, 101)]
        self.assertEqual(len(shown_lines(PANEL, "\n".join(lines))), 100)
        self.refused("\n".join(lines + ["102 n chapter 0 -"]), 101, None)
        self.refused("\n".join(lines[:50] + lines[51:]), 51, None)

    def test_names_kinds_ranks_and_conditions(self):
        for name in ("A", "a-b", "a" * 13, "a_b", "\xe9", "*", ":", "%"):
            self.refused(f"1 {name} para 0 *", 1, None)
        for kind in ("Para", "paras", "par", "chapters", "text", "0", "*", "\u0440ara"):
            self.refused(f"1 a {kind} 0 *", 1, None)
        for rank in ("-1", "00", "01", "+1", "1000000001", "9999999999", "10000000000", "1" * 5000, "x", "1.0",
                     "\u0660", "\u0967",
                     "\xb2", "1_0", "0" * 5000, "0x0"):
            self.refused(f"1 a para {rank} *", 1, None)
        for cond in ("**", "lang", "lang=it", "x=en", "lang=en|", "lang=en,en", "lang=en&lang=fr", "=", "LANG=en",
                     "*|-", "~*", "!lang=en"):
            self.refused(f"1 a para 0 {cond}", 1, None)
            self.refused(f"1 a para 0 *\n: {cond} x", 2, None)

    def test_words_without_signs(self):
        for page in (" a para 0 *", "1  para 0 *", "1 a  0 *", "1 a para  *", "1 a para 0 "):
            self.refused(page, 1, None)

    def test_beneath_what_holds_no_parts(self):
        self.refused("1 a para 0 *\n: * x\n2 b para 0 *", 3, None)
        self.refused("1 a table 0 *\n: * x\n2 b para 0 *\n: * x", 3, None)
        self.refused("1 a para 0 -\n2 b para 0 -", 2, None)
        self.refused("1 a chapter 0 -\n2 b para 0 -\n3 c para 0 -", 3, None)

    def test_one_name_twice_at_a_choice(self):
        self.refused("1 a para 0 *\n: * x\n1 a para 1 *", 3, 0)
        self.refused("1 a para 0 lang=fr\n: * x\n1 a para 1 *", 3, 2)
        ahead = "1 a para 0 lang=en\n: * x\n1 b para 0 *\n: * y\n1 a para 1 lang=fr\n: * z\n"
        self.refused(ahead + "1 a table 0 size=small", 7, 1)
        self.refused("1 a chapter 0 *\n: * x\n2 a chapter 1 lang=fr&size=small|lang=de", 3, 3)
        self.assertEqual(read_page(PANEL, "1 a para 0 lang=en\n: * x\n1 a para 0 lang=fr,de\n: * x").names(), ["a"])
        self.assertEqual(read_page(PANEL, "1 a para 0 lang=de\n: * x\n1 a para 0 lang=de&size=small").names(), ["a"])

    def test_a_part_line_without_contents_for_a_choice(self):
        self.refused("1 a para 0 *", 1, 0)
        self.refused("1 a para 0 *\n: size=big x", 1, 1)
        self.refused("1 a para 0 *\n: lang=en x\n: size=small&lang=fr y\n1 b para 0 *\n: * z", 1, 2)
        self.refused("1 b para 0 *\n: * z\n1 a para 0 lang=fr\n: - x", 3, 2)
        self.refused("1 a chapter 0 lang=de\n2 b para 0 *\n: * x", 1, 4)

    def test_the_line_ahead_is_looked_at_first_of_all(self):
        self.refused("1 a para 0 *\n", 1, 0)
        self.refused("1 a para 0 *\nnonsense", 1, 0)
        self.refused("1 a para 0 *\n: size=big x\n9 a para 0 *", 1, 1)
        self.refused("1 a para 0 *\n: size=big x\n: nonsense", 3, None)
        self.refused("1 a para 0 *\n: size=big x\n: * y", 3, 0)

    def test_content_lines(self):
        self.refused(": * x", 1, None)
        self.refused(":", 1, None)
        for line in (":", ": ", ": *", ":* x", ":*x", "::", ":  * x", ": * x%", ": * " + "x" * 61, ": * \xe9",
                     ": * a\tb", ": *\tx",
                     ":\t* x", ": * x\r", ":: * x", ": ** x", ": lang=en,fr"):
            self.refused("1 a para 0 *\n" + line, 2, None)
            self.refused("1 a para 0 *\n: size=small x\n" + line, 3, None)
            self.refused("1 a para 0 -\n" + line, 2, None)

    def test_contents_that_do_not_fit_the_kind(self):
        for shown in ("a|b/c", "\\", "\\a", "a|b|c|d|e|f|g", "1/2/3/4/5/6/7", "x" * 61, "%"):
            self.refused("1 a table 0 *\n: * " + shown, 2, None)
        for shown in ("a|b/c", "\\", "a|b|c|d|e|f|g"):
            self.assertEqual(read_page(PANEL, "1 a para 0 *\n: * " + shown).contents("a"), [(0b011111, shown)])

    def test_a_choice_in_two_content_lines(self):
        self.refused("1 a para 0 *\n: * x\n: * x", 3, 0)
        self.refused("1 a para 0 *\n: lang=fr x\n: * y", 3, 2)
        self.refused("1 a para 0 *\n: lang=en x\n: lang=fr y\n: size=small z", 4, 1)
        self.refused("1 a para 0 lang=fr,de\n: size=small x\n: lang=de y\n: lang=fr z", 4, 3)
        self.assertEqual(read_page(PANEL, "1 a para 0 lang=fr\n: * x\n: lang=en y").contents("a"), [(0b001100, "x")])

    def test_the_first_fault_met_goes(self):
        self.refused("1 a para 0 *\n: * x\n1 a para 1 *\nnonsense", 3, 0)
        self.refused("nonsense\n1 a para 0 *", 1, None)
        self.refused("1 a para 0 *\n: * x\n: * y\nnonsense", 3, 0)
        self.refused("1 a para 0 *\n: * x\n1 a para 1 nonsense", 3, None)
        self.refused("1 a para 0 *\n: * x\n2 a para 1 *", 3, None)
        self.refused("1 a para 0 *\n: * x\n: * %", 3, None)

    def test_the_only_line_feeds_part_lines(self):
        for sign in ("\r", "\x0b", "\x0c", "\x1c", "\x85", "\u2028", "\u2029"):
            self.refused("1 a para 0 *\n: * x" + sign + "1 b para 0 *", 2, None)


class Drawn(unittest.TestCase):
    def mutated(self, rng, page):
        lines = page.split("\n")
        way = rng.randrange(7)
        place = rng.randrange(len(lines))
        if way == 0:
            lines.pop(place)
        elif way == 1:
            lines.insert(place, rng.choice(lines))
        elif way == 2:
            lines[place], lines[0] = lines[0], lines[place]
        elif way == 3:
            line = lines[place]
            at = rng.randint(0, len(line))
            lines[place] = line[:at] + rng.choice(" *-:|&=,0129ax\n") + line[at:]
        elif way == 4:
            line = lines[place]
            at = rng.randrange(len(line)) if line else 0
            lines[place] = line[:at] + line[at + 1:]
        elif way == 5:
            words = lines[place].split(" ")
            words[rng.randrange(len(words))] = rng.choice(["*", "-", "1", "2", "3", "0", "a", "para", "chapter",
                                                           "table", ":", ""])
            lines[place] = " ".join(words)
        return "\n".join(lines)

    def test_drawn_pages_with_faults(self):
        rng = random.Random(18)
        met = {"read": 0, "line": 0, "choice": 0}
        for _ in range(250):
            panel = drawn_panel(rng, most=12)
            page = written(drawn_book(rng, panel))
            for _ in range(8):
                page = self.mutated(rng, page)
                try:
                    states, shown = read_by_words(panel, page)
                except Bad as fault:
                    with self.assertRaises(BadPage) as caught:
                        read_page(panel, page)
                    self.assertEqual((caught.exception.line, caught.exception.choice), fault.args)
                    with self.assertRaises(BadPage) as caught:
                        shown_lines(panel, page)
                    self.assertEqual((caught.exception.line, caught.exception.choice), fault.args)
                    met["line" if fault.args[1] is None else "choice"] += 1
                    if rng.random() < 0.7:
                        page = written(drawn_book(rng, panel))
                else:
                    book = read_page(panel, page)
                    self.assertEqual(states_of(book), states)
                    self.assertEqual(shown_lines(panel, page), shown)
                    self.assertTrue(read_page(panel, written(book)).same(book))
                    met["read"] += 1
        self.assertTrue(all(many > 100 for many in met.values()), met)


class Shown(unittest.TestCase):
    def test_lines_that_are_seen(self):
        self.assertEqual(shown_lines(PANEL, PAGE), [(1, 0, []), (4, 0, []), (6, 0, []), (9, 2, [])])

    def test_dead_lines_with_paper_and_without(self):
        panel = Panel([LANG, SIZE], [{"size": ["small"], "lang": ["de", "fr"]}, {"lang": ["de"]}])
        page = "\n".join(["1 a chapter 0 lang=de", "2 b para 0 size=small", "2 c para 0 lang=en", "1 d para 0 -",
                          "1 e chapter 0 *", ": * x", "2 f para 0 lang=fr&size=small"])
        self.assertEqual(shown_lines(panel, page), [
            (1, None, [(4, 1), (5, 0)]), (2, None, [(5, 0)]), (3, None, []), (4, None, []), (5, 0, []),
            (7, None, [(3, 0)]),
        ])

    def test_the_least_choice(self):
        page = "1 a chapter 0 size=small\n: * x\n2 b para 0 lang=fr,de\n: * y"
        self.assertEqual(shown_lines(PANEL, page), [(1, 1, []), (3, 3, [])])

    def test_the_kinds_of_what_is_told(self):
        told = shown_lines(PANEL, "1 a para 0 lang=de&size=small")
        self.assertEqual(told, [(1, None, [(5, 0)])])
        self.assertIs(type(told[0]), tuple)
        self.assertIs(type(told[0][2][0]), tuple)
        told[0][2].clear()
        self.assertEqual(shown_lines(PANEL, "1 a para 0 lang=de&size=small"), [(1, None, [(5, 0)])])


class Great(unittest.TestCase):
    def test_a_page_of_600_lines_over_256_choices(self):
        rng = random.Random(19)
        panel = Panel([(word, ["x", "y", "z", "w"]) for word in "abcd"])
        plains = []
        for number in range(256):
            plain = plain_of({f"c{part}": ("chapter", "", part, "") for part in range(5)})
            for part in range(33):
                if rng.random() < 0.5:
                    plain.lay(f"n{part}", "para", f"c{part % 5}", 0, str(rng.randrange(14)))
            plains.append((2 ** number, plain))
        book = gathered(panel, plains)
        page = written(book)
        self.assertTrue(read_page(panel, page).same(book))
        self.assertEqual(len(shown_lines(panel, page)), 38)
        self.assertEqual(set_of(range(256)), panel.allowed())


if __name__ == "__main__":
    unittest.main()
