import copy
import unittest

from manyleaf.words import is_name, is_rank, is_text, is_whole, is_word, read_number

LETTERS = "abcdefghijklmnopqrstuvwxyz"
FIGURES = "0123456789"
# The right neighbours and the left ones of what is allowed, signs that Python itself takes for
# letters, figures or blanks, signs that end a line, and halves of signs.
ODD_SIGNS = (
    "`", "{", "/", ":", "A", "Z", "M", "-", "_", ",", "=", "|", "&", "!", "\"", "#", "$", "%", "@", "[", "\\", "^",
    " ", "~", "}", ".", "a", "z", "0", "9",
    "\n", "\r", "\t", "\x00", "\x0b", "\x0c", "\x1c", "\x1f", "\x7f", "\x80", "\x85", "\xa0", "\xad",
    "\xaa", "\xb2", "\xdf", "\xe9", "\xff", "\u0131", "\u017f", "\u0430", "\u0660", "\u0669", "\u2028", "\u2029",
    "\uff41", "\uff5a", "\uff10", "\uff19", "\ud800", "\udfff", "\ufeff", "\U0001d41a", "\U0001f600", "\U0010ffff",
)


class Shouting(str):
    pass


class Counting(int):
    pass


def no_texts():
    return [
        None, True, False, 0, 1, -1, 7, 10 ** 9, 10 ** 40, 0.0, 1.0, 1.5, float("nan"), float("inf"), 1j, b"", b"a",
        bytearray(b"a"), [], ["a"], ["a", "b"], [1], (), ("a",), (1,), {}, {"a": 1}, {1: "a"}, set(), {"a"},
        frozenset("a"), range(3), object(), object, str, int, len, lambda: "a", Ellipsis, NotImplemented,
        ValueError("a"), iter("a"), memoryview(b"a"),
    ]


class Telling(unittest.TestCase):
    def tells(self, asked, thing, answer):
        with self.subTest(asked.__name__, thing=thing):
            self.assertIs(asked(thing), answer)


class Whole(Telling):
    def test_whole_numbers(self):
        for thing in (0, 1, -1, 2, 255, 10 ** 9, 10 ** 9 + 1, -10 ** 9, 10 ** 400, -10 ** 400, Counting(3)):
            self.tells(is_whole, thing, True)

    def test_truths_are_no_whole_numbers(self):
        self.tells(is_whole, True, False)
        self.tells(is_whole, False, False)

    def test_things_of_other_kinds(self):
        for thing in no_texts():
            self.tells(is_whole, thing, type(thing) is int)
        for thing in ("", "0", "1", "-1", "12", "a"):
            self.tells(is_whole, thing, False)


class Rank(Telling):
    def test_the_edges(self):
        for thing in (0, 1, 2, 999999999, 10 ** 9, Counting(5)):
            self.tells(is_rank, thing, True)
        for thing in (-1, -2, 10 ** 9 + 1, 10 ** 9 + 2, -10 ** 9, 10 ** 10, 10 ** 400, -10 ** 400, Counting(-5)):
            self.tells(is_rank, thing, False)

    def test_truths_are_no_ranks(self):
        self.tells(is_rank, True, False)
        self.tells(is_rank, False, False)

    def test_things_of_other_kinds(self):
        for thing in no_texts():
            self.tells(is_rank, thing, type(thing) is int and 0 <= thing <= 10 ** 9)
        for thing in ("", "0", "1", "12", "a"):
            self.tells(is_rank, thing, False)


class Texts(Telling):
    """What the word, the name and the text have in common, each with its own lengths and signs."""

    def lengths(self, asked, sign, least, greatest):
        for length in range(greatest + 10):
            self.tells(asked, sign * length, least <= length <= greatest)
        self.tells(asked, sign * 10 ** 5, False)

    def signs(self, asked, allowed, greatest):
        for sign in sorted(set(ODD_SIGNS).union(map(chr, range(400)))):
            answer = sign in allowed
            for text in (sign, "a" + sign, sign + "a", "a" + sign + "a", "a" * (greatest - 1) + sign, sign * greatest,
                         sign + "a" * (greatest - 1)):
                self.tells(asked, text, answer)
            self.tells(asked, "a" * greatest + sign, False)


class Word(Texts):
    def test_ordinary_words(self):
        for thing in ("a", "z", "lang", "size", "en", "az", "za", "abcdefgh", Shouting("big")):
            self.tells(is_word, thing, True)

    def test_lengths(self):
        for sign in ("a", "m", "z"):
            self.lengths(is_word, sign, 1, 8)

    def test_signs(self):
        self.signs(is_word, LETTERS, 8)

    def test_what_is_no_word(self):
        for thing in ("", " ", "Lang", "lanG", "a b", " a", "a ", "a1", "a.b", "abc\n", "\nabc", "abcdefghi", "a-b"):
            self.tells(is_word, thing, False)

    def test_things_of_other_kinds(self):
        for thing in no_texts():
            self.tells(is_word, thing, False)


class Name(Texts):
    def test_ordinary_names(self):
        for thing in ("a", "z", "0", "9", ".", "...", "1.2", "intro", "part.1", "a.b.c.d.e.f.", "abcdefghijkl",
                      "012345678901", Shouting("a.1")):
            self.tells(is_name, thing, True)

    def test_lengths(self):
        for sign in ("a", "z", "0", "9", "."):
            self.lengths(is_name, sign, 1, 12)

    def test_signs(self):
        self.signs(is_name, LETTERS + FIGURES + ".", 12)

    def test_what_is_no_name(self):
        for thing in ("", " ", "Part", "a b", "a-b", "a_b", "a,b", "name\n", "1/2", "abcdefghijklm", "\u0663"):
            self.tells(is_name, thing, False)

    def test_things_of_other_kinds(self):
        for thing in no_texts():
            self.tells(is_name, thing, False)


class Text(Texts):
    def test_ordinary_texts(self):
        for thing in ("", " ", "~", "Once upon a time, there was", "a/b|c\\d", ": * - = & !", "\"'`", "$#@^",
                      Shouting("One")):
            self.tells(is_text, thing, True)

    def test_lengths(self):
        for sign in (" ", "a", "~", "0", "\\"):
            self.lengths(is_text, sign, 0, 60)

    def test_signs(self):
        allowed = [chr(number) for number in range(ord(" "), ord("~") + 1)]
        allowed.remove("%")
        self.signs(is_text, allowed, 60)

    def test_what_is_no_text(self):
        for thing in ("%", "100%", "%d", "a\n", "\n", "\na", "a\tb", "\x7f", "caf\xe9", " " * 61):
            self.tells(is_text, thing, False)

    def test_things_of_other_kinds(self):
        for thing in no_texts():
            self.tells(is_text, thing, False)


class Number(unittest.TestCase):
    def test_numbers(self):
        for number in (0, 1, 9, 10, 100, 10 ** 9, 10 ** 10 - 1):
            self.assertEqual(read_number(str(number)), number)

    def test_what_is_no_number(self):
        for text in ("", "00", "01", "-1", "+1", " 1", "1 ", "1\n", "1.0", "1_0", "a", "0x1", "10000000000", "9" * 5000,
                     "0" * 5000, "\u0661", "\xb2", "\uff11", "\u0967"):
            with self.subTest(text):
                self.assertIsNone(read_number(text))


class Untouched(unittest.TestCase):
    def test_what_is_asked_about_is_not_changed(self):
        for thing in ([], ["a", [1]], {}, {"a": [1]}, ("a", ["b"]), set("ab")):
            before = copy.deepcopy(thing)
            for asked in (is_whole, is_word, is_name, is_text, is_rank):
                asked(thing)
                self.assertEqual(thing, before)


if __name__ == "__main__":
    unittest.main()
