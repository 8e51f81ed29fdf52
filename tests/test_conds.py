import itertools
import random
import unittest

from helper import LANG, SIZE, drawn_panel, drawn_set, members_of, odd_things, set_of, small_panels
from manyleaf.conds import boxes_of, deciding, read_cond, tell_choice, tell_cond, undecided
from manyleaf.errors import BadCond, NoChoice
from manyleaf.panel import Panel

PANEL = Panel([LANG, SIZE, ("en", ["lang", "big"])], [{"lang": ["fr"]}])


def read_by_hand(panel, text):
    """The set that a right condition tells, choice by choice."""
    if text in ("*", "-"):
        return panel.all_choices() if text == "*" else 0
    words = [word for word, settings in panel.switches()]
    found = []
    for number in range(panel.many()):
        told = dict(zip(words, panel.told(number)))
        boxes = [[term.split("=") for term in box.split("&")] for box in text.split("|")]
        if any(all(told[word] in settings.split(",") for word, settings in box) for box in boxes):
            found.append(number)
    return set_of(found)


class Reading(unittest.TestCase):
    def test_all_and_none(self):
        for panel in small_panels():
            self.assertEqual(read_cond(panel, "*"), panel.all_choices())
            self.assertEqual(read_cond(panel, "-"), 0)

    def test_by_plain_numbers(self):
        panel = Panel([LANG, SIZE])
        self.assertEqual(read_cond(panel, "lang=en,fr&size=big|lang=de"), 0b110101)
        self.assertEqual(read_cond(panel, "lang=en"), 0b000011)
        self.assertEqual(read_cond(panel, "size=small&lang=de"), 0b100000)

    def test_barred_choices_are_in_it(self):
        self.assertEqual(read_cond(PANEL, "lang=fr"), 0b11110000)

    def test_free_order_boxes_twice_and_overlapping(self):
        texts = ["lang=de,en", "lang=en,de", "en=lang,big&size=big&lang=fr,de,en", "lang=en|lang=en",
                 "lang=en|lang=en,fr",
                 "size=big|lang=en&size=small|size=big", "en=big&lang=fr|size=small|lang=de&en=lang&size=big",
                 "lang=en,fr,de|lang=en", "en=big|en=lang", "size=small,big&en=big,lang"]
        for text in texts:
            self.assertEqual(read_cond(PANEL, text), read_by_hand(PANEL, text))

    def test_drawn_conditions(self):
        rng = random.Random(1)
        for _ in range(300):
            panel = drawn_panel(rng)
            text = drawn_cond(rng, panel)
            self.assertEqual(read_cond(panel, text), read_by_hand(panel, text))


def drawn_cond(rng, panel):
    boxes = []
    for _ in range(rng.randint(1, 4)):
        switches = rng.sample(panel.switches(), rng.randint(1, len(panel.switches())))
        terms = [word + "=" + ",".join(rng.sample(list(told), rng.randint(1, len(told)))) for word, told in switches]
        boxes.append("&".join(terms))
    return "|".join(boxes)


class NoCondition(unittest.TestCase):
    def refused(self, thing):
        with self.subTest(thing):
            with self.assertRaises(BadCond) as caught:
                read_cond(PANEL, thing)
            self.assertIs(type(caught.exception), BadCond)

    def test_what_is_no_text(self):
        for thing in odd_things():
            if thing != "*":
                self.refused(thing)
        for thing in (["*"], ("*",), b"*", {"lang": ["en"]}, [("lang", ("en",))]):
            self.refused(thing)

    def test_each_way_to_be_none(self):
        for text in ("", " ", "**", "*-", "--", "* ", " *", "-|-", "*|lang=en", "lang=en|*", "-|lang=en", "lang=en|-",
                     "*&lang=en",
                     "lang=en&*", "lang=*", "lang=-", "lang", "=", "lang=", "=en", "lang==en", "lang=en=fr",
                     "lang=en,", "lang=,en",
                     "lang=en,,fr", "lang=en|", "|lang=en", "lang=en||lang=fr", "lang=en&", "&lang=en",
                     "lang=en&&size=big",
                     "lang=en&lang=fr", "lang=en&size=big&lang=en", "lang=en,en", "lang=en,fr,en", "lang=it",
                     "lang=big",
                     "size=en", "x=en", "Lang=en", "lang=EN", "lang=e", "lan=en", "langs=en", "lang=ens", "lang=lang",
                     "en=en", "big=en", "lang=en;size=big", "lang=en size=big", "lang:en", "!lang=en", "~lang=en",
                     "(lang=en)",
                     "lang=en\n", "\nlang=en", "lang=en,\nfr", "lang=en\t", "lang=en\x00", "lang =en", "lang= en",
                     "lang=en ,fr",
                     "lang=en, fr", "lang=en |lang=fr", "lang=en| lang=fr", "lang=en &size=big", "lang=en& size=big",
                     "lang=\uff45n", "lang=en/fr", "*lang=en", "lang=en*", "-lang=en", "lang=en-", "|", "&", ",", "||",
                     "\u2217"):
            self.refused(text)

    def test_one_sign_more_at_each_place(self):
        text = "lang=en,fr&size=big|en=big"
        for place in range(len(text) + 1):
            for sign in " \n*-|&=,a.!~E0":
                more = text[:place] + sign + text[place:]
                self.refused(more)

    def test_one_sign_less_at_each_place(self):
        text = "lang=en,fr&size=big|en=big"
        for place in range(len(text)):
            self.refused(text[:place] + text[place + 1:])

    def test_a_box_is_looked_at_behind_one_that_has_all(self):
        self.refused("lang=en,fr,de|lang=it")
        self.refused("lang=en|size=big&size=small")


def same_settings(panel, words, one, other):
    told = [word for word, settings in panel.switches()]
    return all(panel.told(one)[told.index(word)] == panel.told(other)[told.index(word)] for word in words)


def undecided_by_search(panel, choices, within, words):
    for inside in members_of(within):
        for outside in members_of(within):
            if choices >> inside & 1 and not choices >> outside & 1 and same_settings(panel, words, inside, outside):
                return (inside, outside)
    return None


def lists_of_switches(panel):
    words = [word for word, settings in panel.switches()]
    for size in range(len(words) + 1):
        for places in itertools.combinations(range(len(words)), size):
            yield [words[place] for place in places]


def deciding_by_search(panel, choices, within):
    for words in lists_of_switches(panel):
        if undecided_by_search(panel, choices, within, words) is None:
            return words


def boxes_by_words(panel, choices, part, words):
    """Point 23, word by word, over lists of choices."""
    if not any(number in choices for number in part):
        return []
    if all(number in choices for number in part):
        return [[]]
    place = [word for word, settings in panel.switches()].index(words[0])
    told = []
    for setting in dict(panel.switches())[words[0]]:
        having = [number for number in part if panel.told(number)[place] == setting]
        if having:
            told.append((setting, boxes_by_words(panel, choices, having, words[1:])))
    groups = []
    for setting, boxes in told:
        if boxes not in [group[1] for group in groups]:
            groups.append((tuple(one for one, others in told if others == boxes), boxes))
    if len(groups) == 1:
        return groups[0][1]
    return [[(words[0], settings)] + box for settings, boxes in groups for box in boxes]


def cases():
    """All sets of small panels with several withins, and drawn ones of greater panels."""
    rng = random.Random(2)
    for panel in small_panels():
        every = panel.all_choices()
        withins = [every, panel.allowed(), 0, 1, every & 0b1010110, rng.randrange(every + 1)]
        for choices in range(every + 1):
            for within in withins:
                yield panel, choices, within
    for _ in range(150):
        panel = drawn_panel(rng, most=40)
        yield panel, drawn_set(rng, panel), drawn_set(rng, panel)


class Deciding(unittest.TestCase):
    def test_undecided_by_a_plain_search(self):
        rng = random.Random(3)
        for panel, choices, within in cases():
            lists = list(lists_of_switches(panel))
            for words in rng.sample(lists, min(3, len(lists))):
                rng.shuffle(words)
                expected = undecided_by_search(panel, choices, within, words)
                before = list(words)
                self.assertEqual(undecided(panel, choices, within, words), expected)
                self.assertEqual(words, before)

    def test_deciding_by_a_plain_search(self):
        for panel, choices, within in cases():
            told = deciding(panel, choices, within)
            self.assertIs(type(told), list)
            self.assertEqual(told, deciding_by_search(panel, choices, within))

    def test_by_plain_numbers(self):
        panel = Panel([LANG, SIZE])
        self.assertEqual(undecided(panel, 0b000011, 0b111111, []), (0, 2))
        self.assertEqual(undecided(panel, 0b000011, 0b111111, ["size"]), (0, 2))
        self.assertIsNone(undecided(panel, 0b000011, 0b111111, ["lang"]))
        self.assertEqual(undecided(panel, 0b011110, 0b111111, ["size"]), (1, 5))
        self.assertEqual(undecided(panel, 0b011110, 0b111111, ["lang"]), (1, 0))
        self.assertIsNone(undecided(panel, 0b011110, 0b111111, ["size", "lang"]))
        self.assertEqual(deciding(panel, 0b000011, 0b111111), ["lang"])
        self.assertEqual(deciding(panel, 0b000001, 0b111111), ["lang", "size"])
        self.assertEqual(deciding(panel, 0b111111, 0b111111), [])
        self.assertEqual(deciding(panel, 0b111100, 0b000011), [])

    def test_the_first_of_two_switches_that_decide(self):
        panel = Panel([("b", ["x", "y"]), ("a", ["x", "y"])])
        self.assertEqual(deciding(panel, 0b0001, 0b1001), ["b"])
        self.assertEqual(deciding(panel, 0b0001, 0b0011), ["a"])

    def test_one_switch_goes_ahead_of_two_that_stand_first(self):
        panel = Panel([("a", ["x", "y"]), ("b", ["x", "y"]), ("c", ["x", "y"])])
        self.assertEqual(deciding(panel, set_of([1, 7]), set_of([0, 1, 6, 7])), ["c"])

    def test_lists_that_were_told_are_the_askers_own(self):
        panel = Panel([LANG, SIZE])
        for choices, within in ((0b000001, 0b111111), (0, 0b111111), (0b000011, 0b111111)):
            first = deciding(panel, choices, within)
            before = list(first)
            first.append("x")
            self.assertEqual(deciding(panel, choices, within), before)
            boxes = boxes_of(panel, choices, within)
            told = [list(box) for box in boxes]
            for box in boxes:
                box.append(1)
            boxes.append([])
            self.assertEqual(boxes_of(panel, choices, within), told)
            self.assertEqual(panel.switches(), Panel([LANG, SIZE]).switches())


class Telling(unittest.TestCase):
    def test_boxes_by_the_words_of_the_point(self):
        for panel, choices, within in cases():
            words = deciding(panel, choices, within)
            expected = boxes_by_words(panel, members_of(choices), members_of(within), words)
            self.assertEqual(boxes_of(panel, choices, within), expected)

    def test_boxes_by_plain_numbers(self):
        panel = Panel([LANG, SIZE])
        self.assertEqual(boxes_of(panel, 0b110101, 0b111111),
                         [[("lang", ("en", "fr")), ("size", ("big",))], [("lang", ("de",))]])
        self.assertEqual(boxes_of(panel, 0, 0b111111), [])
        self.assertEqual(boxes_of(panel, 0b111111, 0b111111), [[]])
        self.assertEqual(boxes_of(panel, 0b111111, 0), [])
        self.assertEqual(boxes_of(panel, 0b010101, 0b111111), [[("size", ("big",))]])
        self.assertEqual(boxes_of(panel, 0b110011, 0b111111), [[("lang", ("en", "de"))]])

    def test_the_kinds_of_boxes(self):
        boxes = boxes_of(Panel([LANG, SIZE]), 0b000001, 0b111111)
        self.assertEqual([type(boxes), type(boxes[0]), type(boxes[0][0]), type(boxes[0][0][1])],
                         [list, list, tuple, tuple])

    def test_conditions_by_plain_numbers(self):
        panel = Panel([LANG, SIZE])
        self.assertEqual(tell_cond(panel, 0b110101, 0b111111), "lang=en,fr&size=big|lang=de")
        self.assertEqual(tell_cond(panel, 0b111111, 0b111111), "*")
        self.assertEqual(tell_cond(panel, 0b001100, 0b001100), "*")
        self.assertEqual(tell_cond(panel, 0b001100, 0b110011), "-")
        self.assertEqual(tell_cond(panel, 0b001100, 0), "-")
        self.assertEqual(tell_cond(panel, 0b001101, 0b001111), "lang=en&size=big|lang=fr")
        self.assertEqual(tell_cond(panel, 0b000001, 0b000011), "size=big")

    def test_barred_choices_count_where_the_within_has_them(self):
        panel = Panel([LANG, SIZE], [{"lang": ["de"]}])
        self.assertEqual(tell_cond(panel, 0b001111, panel.all_choices()), "lang=en,fr")
        self.assertEqual(tell_cond(panel, 0b001111, panel.allowed()), "*")
        self.assertEqual(tell_cond(panel, 0b110000, panel.all_choices()), "lang=de")

    def test_what_is_told_reads_back(self):
        texts = {}
        for panel, choices, within in cases():
            text = tell_cond(panel, choices, within)
            self.assertIs(type(text), str)
            self.assertEqual(read_cond(panel, text) & within, choices & within)
            boxes = boxes_of(panel, choices, within)
            named = {word for box in boxes for word, settings in box}
            self.assertEqual(named, set(deciding(panel, choices, within)))
            sets = [read_box(panel, box) & within for box in boxes]
            self.assertEqual(sum(bin(one).count("1") for one in sets), bin(choices & within).count("1"))
            known = texts.setdefault((repr(panel.switches()), choices & within, within), text)
            self.assertEqual(text, known)

    def test_what_is_told_names_the_fewest_switches(self):
        """Against each set of switches: fewer ones cannot tell the set, as two choices are alike in them."""
        for panel, choices, within in cases():
            size = len(deciding(panel, choices, within))
            for words in lists_of_switches(panel):
                if len(words) < size:
                    self.assertIsNotNone(undecided(panel, choices, within, words))


def read_box(panel, box):
    return panel.box({word: list(settings) for word, settings in box})


class Choices(unittest.TestCase):
    def test_a_choice_told(self):
        panel = Panel([LANG, SIZE])
        self.assertEqual(tell_choice(panel, 0), "lang=en&size=big")
        self.assertEqual(tell_choice(panel, 5), "lang=de&size=small")
        for panel in small_panels():
            for number in range(panel.many()):
                self.assertEqual(read_cond(panel, tell_choice(panel, number)), 2 ** number)

    def test_what_is_no_number_of_a_choice(self):
        for panel in small_panels():
            for thing in odd_things() + [panel.many(), panel.many() + 1]:
                with self.subTest(thing):
                    self.assertRaises(NoChoice, tell_choice, panel, thing)


class Great(unittest.TestCase):
    def test_the_greatest_panels(self):
        rng = random.Random(4)
        for switches in ([(word, ["x", "y", "z", "w"]) for word in "abcd"],
                         [(word, ["x", "y", "z"]) for word in "abcde"],
                         [("a", ["x", "y"]), ("b", ["x", "y"])] + [(word, ["x", "y", "z", "w"]) for word in "cde"]):
            panel = Panel(switches)
            for _ in range(5):
                choices, within = rng.randrange(panel.all_choices() + 1), rng.randrange(panel.all_choices() + 1)
                text = tell_cond(panel, choices, within)
                self.assertEqual(read_cond(panel, text) & within, choices & within)


if __name__ == "__main__":
    unittest.main()
