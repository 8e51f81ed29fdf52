import random
import unittest

from helper import (LANG, SIZE, changed, drawn_book, drawn_panel, drawn_plain, members_of, plain_of, records_of, set_of)
from manyleaf.book import Book, gathered
from manyleaf.joins import book_join, plain_join
from manyleaf.kinds import kind_of_word
from manyleaf.panel import Panel
from manyleaf.plain import Plain

PANEL = Panel([LANG, SIZE], [{"lang": ["de"], "size": ["small"]}])
CHAPTER = ("chapter", "", 0, "")


def joined(elder, one, other):
    plain, clashes = plain_join(plain_of(elder), plain_of(one), plain_of(other))
    return records_of(plain), clashes


class Case(unittest.TestCase):
    def gives(self, elder, one, other, records, clashes):
        """Whichever of the two is called one."""
        for first, second in ((one, other), (other, one)):
            self.assertEqual(joined(elder, first, second), (records, clashes))


class States(Case):
    def state(self, elder, one, other, state, words):
        books = [{"a": record} if record else {} for record in (elder, one, other, state)]
        self.gives(books[0], books[1], books[2], books[3], [("a", word) for word in words])

    def test_states_alike(self):
        x, y = ("para", "", 0, "x"), ("para", "", 0, "y")
        self.state(None, x, x, x, [])
        self.state(x, x, x, x, [])
        self.state(y, x, x, x, [])
        self.state(y, None, None, None, [])

    def test_one_as_in_the_elder(self):
        x, y, table = ("para", "", 0, "x"), ("para", "", 0, "y"), ("table", "", 3, (("t",),))
        self.state(x, y, x, y, [])
        self.state(x, table, x, table, [])
        self.state(x, None, x, None, [])
        self.state(None, x, None, x, [])

    def test_both(self):
        self.state(None, ("para", "", 0, "x"), ("para", "", 0, "y"), ("para", "", 0, "x"), ["both"])
        self.state(None, ("para", "", 2, "x"), ("para", "", 10, "a"), ("para", "", 2, "x"), ["both"])
        self.state(None, ("para", "", 5, "x"), ("chapter", "", 9, "y"), ("chapter", "", 9, "y"), ["both"])
        self.state(None, ("table", "", 0, (("b",),)), ("table", "", 0, (("a", "b"),)), ("table", "", 0, (("a", "b"),)),
                   ["both"])
        # As the kind shows it: a bar in a cell is shown with a backstroke ahead, which is a lesser sign than the bar.
        self.state(None, ("table", "", 0, (("|",),)), ("table", "", 0, (("", ""),)), ("table", "", 0, (("|",),)),
                   ["both"])
        self.state(None, ("table", "", 0, (("a", "z"),)), ("table", "", 0, (("a!",),)), ("table", "", 0, (("a!",),)),
                   ["both"])

    def test_both_by_the_parent(self):
        elder = {"b": CHAPTER, "c": CHAPTER}
        one, other = {**elder, "a": ("para", "c", 0, "")}, {**elder, "a": ("para", "b", 9, "z")}
        self.gives(elder, one, other, {**elder, "a": ("para", "b", 9, "z")}, [("a", "both")])
        other = {**elder, "a": ("para", "", 9, "z")}
        self.gives(elder, one, other, other, [("a", "both")])

    def test_gone(self):
        self.state(("para", "", 0, "x"), None, ("para", "", 0, "y"), ("para", "", 0, "y"), ["gone"])
        self.state(("para", "", 0, "x"), ("table", "", 0, (("y",),)), None, ("table", "", 0, (("y",),)), ["gone"])

    def test_kind(self):
        x = ("para", "", 0, "x")
        self.state(x, ("chapter", "", 0, "x"), ("para", "", 0, "y"), x, ["kind"])
        self.state(x, ("chapter", "", 0, "x"), ("table", "", 0, (("x",),)), x, ["kind"])
        self.state(x, ("chapter", "", 0, "y"), ("chapter", "", 0, "z"), x, ["kind"])

    def test_place(self):
        elder = {"b": CHAPTER, "a": ("para", "", 0, "x")}
        for one, other, place, clashes in (
                (("", 1), ("", 1), ("", 1), []), (("b", 0), ("", 0), ("b", 0), []), (("", 0), ("", 7), ("", 7), []),
                (("b", 0), ("", 1), ("", 0), [("a", "place")]), (("b", 1), ("b", 2), ("", 0), [("a", "place")]),
                (("b", 5), ("b", 5), ("b", 5), [])):
            books = [{"b": CHAPTER, "a": ("para",) + way + (text,)} for way,
                     text in ((one, "y"), (other, "y"), (place, "y"))]
            self.gives(elder, books[0], books[1], books[2], clashes)

    def test_place_and_content_by_themselves(self):
        x = ("para", "", 0, "x")
        self.state(x, ("para", "", 5, "x"), ("para", "", 0, "y"), ("para", "", 5, "y"), [])
        self.state(x, ("para", "", 5, "y"), ("para", "", 0, "y"), ("para", "", 5, "y"), [])
        self.state(x, ("para", "", 5, "y"), ("para", "", 6, "z"), ("para", "", 0, "x"), ["content", "place"])
        self.state(x, ("para", "", 5, "y"), ("para", "", 6, "y"), ("para", "", 0, "y"), ["place"])
        self.state(x, ("para", "", 5, "y"), ("para", "", 5, "z"), ("para", "", 5, "x"), ["content"])

    def test_tables_cell_by_cell(self):
        def table(*rows):
            return ("table", "", 0, tuple(tuple(row) for row in rows))
        self.state(table("ab", "cd"), table("xb", "cd"), table("ab", "cy"), table("xb", "cy"), [])
        self.state(table("ab", "cd"), table("xb", "1d"), table("yb", "2y"), table("ab", "cy"), ["cell 0 0", "cell 1 0"])
        self.state(table("ab", "cd"), table("xb", "cd"), table("yb"), table("ab", "cd"), ["content"])


class Loose(Case):
    def test_a_parent_that_is_gone(self):
        elder = {"c": CHAPTER, "p": ("para", "c", 3, "x")}
        one, other = {}, {"c": CHAPTER, "p": ("para", "c", 3, "x"), "q": ("para", "c", 4, "new")}
        self.gives(elder, one, other, {"q": ("para", "", 4, "new")}, [("q", "loose")])
        other = {"c": CHAPTER, "p": ("para", "c", 3, "y")}
        self.gives(elder, one, other, {"p": ("para", "", 3, "y")}, [("p", "gone"), ("p", "loose")])

    def test_what_stands_beneath_stays_there(self):
        elder = {"c": CHAPTER}
        other = {"c": CHAPTER, "d": ("chapter", "c", 1, "D"), "e": ("chapter", "d", 0, ""), "p": ("para", "e", 2, "x")}
        self.gives(elder, {}, other,
                   {"d": ("chapter", "", 1, "D"), "e": ("chapter", "d", 0, ""), "p": ("para", "e", 2, "x")},
                   [("d", "loose")])

    def test_a_parent_that_holds_nothing(self):
        elder = {"c": CHAPTER}
        for record in (("para", "", 0, ""), ("table", "", 0, (("",),))):
            other = {"c": CHAPTER, "p": ("para", "c", 0, "x"), "q": ("para", "c", 1, "y")}
            self.gives(elder, {"c": record}, other, {"c": record, "p": ("para", "", 0, "x"), "q": ("para", "", 1, "y")},
                       [("p", "loose"), ("q", "loose")])

    def test_a_ring_of_two(self):
        elder = {"a": CHAPTER, "b": ("chapter", "", 1, "")}
        one = {"a": ("chapter", "b", 7, ""), "b": ("chapter", "", 1, "")}
        other = {"a": CHAPTER, "b": ("chapter", "a", 8, "")}
        self.gives(elder, one, other, {"a": ("chapter", "", 7, ""), "b": ("chapter", "a", 8, "")}, [("a", "loose")])

    def test_a_ring_of_four_with_parts_that_hang_on_it(self):
        elder = {name: ("chapter", "", 0, name) for name in "bcde"}
        elder.update({"a": ("chapter", "c", 0, ""), "z": ("para", "e", 0, "")})
        one = {**elder, "b": ("chapter", "c", 1, "b"), "d": ("chapter", "e", 2, "d")}
        other = {**elder, "c": ("chapter", "d", 3, "c"), "e": ("chapter", "b", 4, "e")}
        came = {**one, "c": other["c"], "e": other["e"], "b": ("chapter", "", 1, "b")}
        self.gives(elder, one, other, came, [("b", "loose")])

    def test_two_rings_at_once(self):
        names = "abcd"
        elder = {name: ("chapter", "", 0, "") for name in names}
        one = {**elder, "a": ("chapter", "d", 1, ""), "b": ("chapter", "c", 1, "")}
        other = {**elder, "d": ("chapter", "a", 1, ""), "c": ("chapter", "b", 1, "")}
        came = {"a": ("chapter", "", 1, ""), "b": ("chapter", "", 1, ""), "c": other["c"], "d": other["d"]}
        self.gives(elder, one, other, came, [("a", "loose"), ("b", "loose")])

    def test_a_ring_of_one(self):
        ring = {"a": ("chapter", "a", 3, "A"), "b": ("para", "a", 0, "")}
        self.gives({}, ring, {}, {"a": ("chapter", "", 3, "A"), "b": ("para", "a", 0, "")}, [("a", "loose")])

    def test_a_ring_broken_by_a_parent_that_holds_nothing(self):
        elder = {"a": CHAPTER, "b": CHAPTER, "c": CHAPTER}
        one = {"a": ("chapter", "b", 0, ""), "b": CHAPTER, "c": ("para", "", 0, "")}
        other = {"a": CHAPTER, "b": ("chapter", "c", 0, ""), "c": CHAPTER}
        came = {"a": ("chapter", "b", 0, ""), "b": ("chapter", "", 0, ""), "c": ("para", "", 0, "")}
        self.gives(elder, one, other, came, [("b", "loose")])

    def test_clashes_are_sorted(self):
        elder = {"z": ("para", "", 0, "x"), "a": ("para", "", 0, "x"), "c": CHAPTER, "p": ("para", "c", 0, "x")}
        one = {"z": ("para", "", 1, "y"), "a": ("table", "", 0, (("",),)), "p": ("para", "", 0, "x")}
        other = {"z": ("para", "", 2, "z"), "c": CHAPTER, "p": ("para", "c", 0, "y"), "q": ("para", "c", 1, "")}
        records, clashes = joined(elder, one, other)
        self.assertEqual(clashes, [("a", "gone"), ("q", "loose"), ("z", "content"), ("z", "place")])
        self.assertEqual(joined(elder, other, one), (records, clashes))


def join_by_words(elder, one, other):
    """Points 80 and 81 by their words, over dicts of records."""
    came, clashes = {}, []
    for name in {**elder, **one, **other}:
        base, first, second = elder.get(name), one.get(name), other.get(name)
        words = []
        if first == second or second == base:
            state = first
        elif first == base:
            state = second
        elif base is None:
            state = sorted([first, second], key=lambda one: one[:3] + (kind_of_word(one[0]).shown(one[3]),))[0]
            words = ["both"]
        elif first is None or second is None:
            state, words = first or second, ["gone"]
        elif not first[0] == second[0] == base[0]:
            state, words = base, ["kind"]
        else:
            place = base[1:3]
            if first[1:3] == second[1:3] or second[1:3] == place:
                place = first[1:3]
            elif first[1:3] == place:
                place = second[1:3]
            else:
                words = ["place"]
            content, more = kind_of_word(base[0]).joined(base[3], first[3], second[3])
            state, words = (base[0],) + place + (content,), words + more
        if state is not None:
            came[name] = state
        clashes += [(name, word) for word in words]
    tops = [name for name in came if came[name][1] != "" and came.get(came[name][1], ("",))[0] != "chapter"]
    for name in tops:
        came[name] = (came[name][0], "") + came[name][2:]
    while True:
        ring = sorted(name for name in came if leads_back(came, name))
        if not ring:
            break
        tops.append(ring[0])
        came[ring[0]] = (came[ring[0]][0], "") + came[ring[0]][2:]
    return came, sorted(clashes + [(name, "loose") for name in tops])


def leads_back(records, name):
    above, steps = records[name][1], 0
    while above not in ("", name) and steps <= len(records):
        above, steps = records[above][1], steps + 1
    return above == name


def is_tree(records):
    return all(not leads_back(records, name) and (record[1] == "" or records[record[1]][0] == "chapter")
               for name, record in records.items())


class Drawn(unittest.TestCase):
    def test_plain_books_by_the_words_of_the_points(self):
        rng = random.Random(28)
        met = {}
        for _ in range(3000):
            elder = drawn_plain(rng)
            one, other = [drawn_far(rng, elder) for _ in range(2)]
            before = [records_of(plain) for plain in (elder, one, other)]
            plain, clashes = plain_join(elder, one, other)
            self.assertEqual((records_of(plain), clashes), join_by_words(*before))
            self.assertEqual([records_of(part) for part in (elder, one, other)], before)
            again, same = plain_join(elder, other, one)
            self.assertTrue(again.same(plain))
            self.assertEqual(clashes, same)
            self.assertTrue(is_tree(records_of(plain)))
            for name, word in clashes:
                met[word.split(" ")[0]] = met.get(word.split(" ")[0], 0) + 1
        self.assertEqual(sorted(met), ["both", "cell", "content", "gone", "kind", "loose", "place"])
        self.assertTrue(all(many > 4 for many in met.values()), met)

    def test_rings_of_many_sizes(self):
        rng = random.Random(32)
        sizes = set()
        for _ in range(600):
            names = list("abcdefg")
            elder = {name: ("chapter", "", 0, "") for name in names}
            one, other = [moved(rng, elder, names) for _ in range(2)]
            records, clashes = joined(elder, one, other)
            self.assertEqual((records, clashes), join_by_words(elder, one, other))
            self.assertEqual((records, clashes), joined(elder, other, one))
            self.assertTrue(is_tree(records))
            sizes.add(len(clashes))
        self.assertGreaterEqual(sizes, {0, 1, 2})

    def test_one_like_the_elder_and_both_alike(self):
        rng = random.Random(29)
        for _ in range(200):
            elder = drawn_plain(rng)
            one = drawn_far(rng, elder)
            for three in ((elder, one, elder), (elder, elder, one), (elder, one, one)):
                plain, clashes = plain_join(*three)
                self.assertTrue(plain.same(one))
                self.assertEqual(clashes, [])

    def test_books_choice_by_choice(self):
        rng = random.Random(30)
        clashing = 0
        for _ in range(200):
            panel = drawn_panel(rng, most=12)
            elder = drawn_book(rng, panel)
            one, other = [book_near(rng, elder) for _ in range(2)]
            book, clashes = book_join(elder, one, other)
            self.assertIs(type(book), Book)
            found = {}
            for number in members_of(panel.allowed()):
                plain, here = plain_join(elder.plain(number), one.plain(number), other.plain(number))
                self.assertTrue(book.plain(number).same(plain))
                for clash in here:
                    found.setdefault(clash, []).append(number)
            self.assertEqual(clashes, [clash + (set_of(found[clash]),) for clash in sorted(found)])
            again, same = book_join(elder, other, one)
            self.assertTrue(again.same(book))
            self.assertEqual(same, clashes)
            clashing += bool(clashes)
        self.assertGreater(clashing, 60)


def moved(rng, records, names):
    """Some of the chapters beneath one that stands behind them in a drawn order, so that a tree comes."""
    order = rng.sample(names, len(names))
    after = dict(records)
    for place, name in enumerate(order[:-1]):
        if rng.random() < 0.5:
            after[name] = ("chapter", rng.choice(order[place + 1:]), 1, "")
    return after


def drawn_far(rng, plain):
    return changed(rng, changed(rng, plain))


def book_near(rng, book):
    rows = [(choices, book.plain(members_of(choices)[0])) for choices in book.classes()]
    return gathered(book.panel, [(choices, drawn_far(rng, plain)) for choices, plain in rows])


class Books(unittest.TestCase):
    def test_by_hand(self):
        x, y, z = [plain_of({"a": ("para", "", 0, text)}) for text in "xyz"]
        elder = gathered(PANEL, [(0b011111, x)])
        one = gathered(PANEL, [(0b000111, y), (0b011000, x)])
        other = gathered(PANEL, [(0b001110, z), (0b010001, x)])
        book, clashes = book_join(elder, one, other)
        self.assertEqual(book.contents("a"), [(0b000001, "y"), (0b010110, "x"), (0b001000, "z")])
        self.assertEqual(clashes, [("a", "content", 0b000110)])
        self.assertEqual([type(clash) for clash in clashes], [tuple])

    def test_one_like_the_elder_and_both_alike(self):
        rng = random.Random(31)
        for _ in range(40):
            elder = drawn_book(rng, PANEL)
            one = book_near(rng, elder)
            for three in ((elder, one, elder), (elder, elder, one), (elder, one, one)):
                book, clashes = book_join(*three)
                self.assertTrue(book.same(one))
                self.assertEqual(clashes, [])

    def test_books_with_nothing(self):
        book, clashes = book_join(Book(PANEL), Book(PANEL), Book(PANEL))
        self.assertTrue(book.same(Book(PANEL)))
        self.assertEqual(clashes, [])

    def test_panels_made_twice(self):
        again = Panel([LANG, SIZE], [{"lang": ["de"], "size": ["small"]}])
        plain = plain_of({"a": CHAPTER})
        book, clashes = book_join(Book(PANEL), gathered(again, [(0b111111, plain)]), Book(PANEL))
        self.assertEqual(book.where("a"), 0b011111)

    def test_what_is_made_is_its_own(self):
        elder, one, other = Plain(), plain_of({"a": CHAPTER}), plain_of({"b": CHAPTER})
        plain, clashes = plain_join(elder, one, other)
        plain.drop("a")
        clashes.append(1)
        self.assertEqual(one.names(), ["a"])
        one.drop("a")
        self.assertEqual(plain.names(), ["b"])
        self.assertEqual(plain_join(elder, one, other)[1], [])


if __name__ == "__main__":
    unittest.main()
