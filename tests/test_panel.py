import copy
import itertools
import unittest

from helper import EDITION, LANG, SIZE, holds, odd_things, set_of, settings_of
from manyleaf.errors import BadCond, BadPanel, NoChoice
from manyleaf.panel import Panel

PANELS = [
    ([("a", ["x", "y"])], None),
    ([("a", ["x", "y", "z", "w"])], [{"a": ["w"]}]),
    ([LANG, SIZE], []),
    ([SIZE, LANG, EDITION], [{"lang": ["de"], "size": ["small"]}]),
    ([("lang", ["lang", "size"]), ("size", ["size", "lang"])], [{"size": ["lang"]}]),
    ([("a", ["a", "ab", "abc"]), ("ab", ["abc", "a", "ab"]), ("abc", ["ab", "abcd"])],
     [{"ab": ["a", "ab"], "a": ["ab"]}]),
    ([(word, ["x", "y", "z"]) for word in "abcde"], None),
    ([(word, ["x", "y", "z", "w"]) for word in "abcd"], [{"a": ["x"]}, {"b": ["w", "x"], "d": ["y"]}]),
    ([("abcdefgh", ["abcdefgh", "z"]), ("z", ["y", "abcdefgh"])],
     [{"z": ["y"], "abcdefgh": ["z"]}] * 7 + [{"abcdefgh": ["z"]}]),
]


class Making(unittest.TestCase):
    def test_switches_and_rules_are_told(self):
        for switches, rules in PANELS:
            panel = Panel(switches, rules)
            self.assertEqual(panel.switches(), [(word, tuple(settings)) for word, settings in switches])
            self.assertEqual(panel.rules(), rules or [])
            self.assertEqual([list(rule) for rule in panel.rules()], [list(rule) for rule in rules or []])
            self.assertEqual(panel.many(), len(settings_of(switches)))
            self.assertIs(type(panel.switches()[0]), tuple)
            self.assertIs(type(panel.switches()[0][1]), tuple)

    def test_rules_may_be_left_out(self):
        for panel in (Panel([LANG]), Panel([LANG], None), Panel([LANG], []), Panel([LANG], rules=None)):
            self.assertEqual(panel.rules(), [])
            self.assertEqual(panel.allowed(), 7)
        self.assertEqual(Panel(switches=[LANG], rules=[{"lang": ["fr"]}]).allowed(), 5)

    def test_eight_rules_and_nine(self):
        rule = {"lang": ["en"]}
        for many in range(9):
            self.assertEqual(len(Panel([LANG], [rule] * many).rules()), many)
        with self.assertRaises(BadPanel):
            Panel([LANG], [rule] * 9)

    def test_256_choices_and_more(self):
        four = ["x", "y", "z", "w"]
        self.assertEqual(Panel([(word, four) for word in "abcd"]).many(), 256)
        self.assertEqual(Panel([(word, four) for word in "abc"] + [("d", four[:2]), ("e", four[:2])]).many(), 256)
        for switches in ([(word, four) for word in "abcde"], [(word, four) for word in "abcd"] + [("e", four[:2])],
                         [(word, four) for word in "abc"] + [("d", four[:3]), ("e", four[:2])]):
            with self.assertRaises(BadPanel):
                Panel(switches)

    def test_one_choice_beyond_256(self):
        self.assertEqual(Panel([(word, ["x", "y", "z"]) for word in "abcde"]).many(), 243)
        with self.assertRaises(BadPanel):
            Panel([("a", ["x", "y", "z", "w"])] + [(word, ["x", "y", "z"]) for word in "bcde"])


class Refused(unittest.TestCase):
    def refused(self, switches, rules=None, error=BadPanel):
        before = repr((switches, rules))
        with self.subTest(switches=switches, rules=rules):
            with self.assertRaises(error) as caught:
                Panel(switches, rules)
            self.assertIs(type(caught.exception), error)
            self.assertEqual(before, repr((switches, rules)))

    def test_what_is_no_list_of_switches(self):
        for thing in odd_things() + [(LANG,), {"lang": ["en", "fr"]}, LANG, "lang"]:
            self.refused(thing)
        self.refused([])
        self.refused([(word, ["x", "y"]) for word in "abcdef"])

    def test_what_is_no_tuple_of_two(self):
        for thing in odd_things() + [["lang", ["en", "fr"]], ("lang",), ("lang", ["en", "fr"], 1), ()]:
            self.refused([thing])
            self.refused([SIZE, thing])

    def test_what_is_no_word_of_a_switch(self):
        for thing in odd_things() + ["Lang", "a1", "abcdefghi", "a.b", "lang ", "l\xe4ng", ["lang"], ("lang",)]:
            if thing not in ("en",):
                self.refused([(thing, ["x", "y"])])
                self.refused([LANG, (thing, ["x", "y"])])

    def test_two_switches_of_one_word(self):
        self.refused([LANG, LANG])
        self.refused([LANG, SIZE, ("lang", ["x", "y"])])

    def test_what_is_no_list_of_settings(self):
        for thing in odd_things() + [("en", "fr"), {"en": 1, "fr": 2}, {"en", "fr"}, "en", ["en"], [], list("abcde")]:
            self.refused([("lang", thing)])
            self.refused([SIZE, ("lang", thing)])

    def test_what_is_no_word_of_a_setting(self):
        for thing in odd_things() + ["En", "a1", "abcdefghi", "en,fr", "en "]:
            if thing != "en":
                self.refused([("lang", ["fr", thing])])
                self.refused([("lang", [thing, "fr", "de"])])

    def test_one_setting_twice(self):
        self.refused([("lang", ["en", "en"])])
        self.refused([("lang", ["en", "fr", "de", "en"])])

    def test_what_is_no_list_of_rules(self):
        for thing in odd_things() + [({"lang": ["en"]},), {"lang": ["en"]}, "lang"]:
            if thing is not None and thing != []:
                self.refused([LANG], thing)

    def test_a_rule_that_is_none(self):
        for thing in odd_things() + [[("lang", ["en"])], ("lang", ["en"]), {}]:
            self.refused([LANG, SIZE], [thing])
            self.refused([LANG, SIZE], [{"lang": ["en"]}, thing])

    def test_a_rule_that_is_no_box(self):
        for rule in bad_boxes():
            self.refused([LANG, SIZE], [rule])
            self.refused([LANG, SIZE], [{"lang": ["en"]}, rule])

    def test_rules_that_bar_every_choice(self):
        self.refused([LANG], [{"lang": ["en", "fr", "de"]}], NoChoice)
        self.refused([LANG, SIZE], [{"lang": ["en"]}, {"size": ["big"], "lang": ["fr", "de"]}, {"size": ["small"]}],
                     NoChoice)
        self.assertEqual(Panel([LANG, SIZE], [{"lang": ["en"]}, {"size": ["big"]}, {"lang": ["fr"]}]).allowed(), 32)

    def test_bad_panel_goes_ahead_of_no_choice(self):
        self.refused([LANG], [{"lang": ["en", "fr", "de"]}, {}])
        self.refused([LANG], [{"lang": ["en", "fr", "de"]}] * 9)


def bad_boxes():
    boxes = [{key: ["en"]} for key in (0, 1, None, True, (), ("lang",), 1.5, "", "Lang", "en", "langs", "lan", "big",
                                       b"lang")]
    boxes += [{"lang": thing} for thing in odd_things() if thing not in (["en"],)]
    boxes += [{"lang": thing} for thing in (("en",), {"en": 1}, [], ["en", "en"], ["big"], ["en", "big"], ["lang"],
                                            [""], ["e"],
                                            ["en", None], [["en"]], [0], ["en", 0], [{}], ["EN"],
                                            ["en", "fr", "de", "en"])]
    boxes += [{"size": ["big"], "lang": ["it"]}, {"lang": ["en"], "size": []}, {"lang": ["en"], "x": ["big"]}]
    return boxes


class Numbering(unittest.TestCase):
    def test_numbers_both_ways(self):
        for switches, rules in PANELS:
            panel = Panel(switches, rules)
            for number, told in enumerate(settings_of(switches)):
                self.assertEqual(panel.told(number), told)
                self.assertIs(type(panel.told(number)), tuple)
                self.assertEqual(panel.number_of(told), number)
                self.assertEqual(panel.number_of(list(told)), number)

    def test_the_first_choice_and_the_next(self):
        panel = Panel([LANG, SIZE])
        self.assertEqual(panel.told(0), ("en", "big"))
        self.assertEqual(panel.told(1), ("en", "small"))
        self.assertEqual(panel.told(5), ("de", "small"))
        self.assertEqual(panel.number_of(["fr", "big"]), 2)

    def test_settings_that_make_no_choice(self):
        panel = Panel([LANG, SIZE])
        for told in ([], ["en"], ["en", "big", "big"], ["big", "en"], ["en", "tiny"], ["it", "big"], ["", ""],
                     ["en", ""],
                     ["en", None], [0, 0], [None, None], [["en"], "big"], [("en", "big")], ["EN", "big"], ["en", {}],
                     ["en", "big", None], [True, False]):
            for thing in (told, tuple(told)):
                with self.subTest(thing):
                    self.assertRaises(NoChoice, panel.number_of, thing)
        for thing in odd_things():
            self.assertRaises(NoChoice, panel.number_of, thing)
        self.assertRaises(NoChoice, Panel([("e", ["n", "m"]), ("f", ["n", "m"])]).number_of, "nm")

    def test_what_is_no_number_of_a_choice(self):
        for switches, rules in PANELS:
            panel = Panel(switches, rules)
            for thing in odd_things() + [panel.many(), panel.many() + 1, -panel.many(), "0", "1", [1]]:
                with self.subTest(thing):
                    self.assertRaises(NoChoice, panel.told, thing)
                    self.assertRaises(NoChoice, panel.barred, thing)


class Boxes(unittest.TestCase):
    def test_boxes_by_a_plain_search(self):
        for switches, rules in PANELS[:6]:
            panel = Panel(switches, rules)
            for box in all_boxes(switches[:3]):
                told = settings_of(switches)
                expected = [number for number in range(len(told)) if holds(switches, box, told[number])]
                self.assertEqual(panel.box(box), set_of(expected))

    def test_the_box_without_entries_is_the_set_of_all_choices(self):
        for switches, rules in PANELS:
            panel = Panel(switches, rules)
            self.assertEqual(panel.box({}), 2 ** panel.many() - 1)
            self.assertEqual(panel.all_choices(), 2 ** panel.many() - 1)

    def test_a_box_has_barred_choices_too(self):
        self.assertEqual(Panel([LANG, SIZE], [{"lang": ["fr"]}]).box({"size": ["big"]}), 0b010101)

    def test_the_order_is_free(self):
        panel = Panel([LANG, SIZE])
        one = panel.box({"size": ["small", "big"], "lang": ["de", "en"]})
        self.assertEqual(one, panel.box({"lang": ["en", "de"]}))
        self.assertEqual(one, 0b110011)

    def test_what_is_no_box(self):
        panel = Panel([LANG, SIZE])
        for thing in [thing for thing in odd_things() if thing != {}] + bad_boxes() + [[("lang", ["en"])], "lang=en"]:
            with self.subTest(thing):
                with self.assertRaises(BadCond) as caught:
                    panel.box(thing)
                self.assertIs(type(caught.exception), BadCond)


def all_boxes(switches):
    ways = []
    for word, settings in switches:
        some = [list(part) for size in range(1, len(settings) + 1) for part in itertools.permutations(settings, size)]
        ways.append([(word, None)] + [(word, part) for part in some[::3]])
    for picked in itertools.product(*ways):
        yield {word: settings for word, settings in picked if settings is not None}


class Barred(unittest.TestCase):
    def test_each_choice_by_its_first_rule(self):
        for switches, rules in PANELS:
            panel = Panel(switches, rules)
            allowed = []
            for number, told in enumerate(settings_of(switches)):
                barring = [place for place, rule in enumerate(rules or []) if holds(switches, rule, told)]
                self.assertEqual(panel.barred(number), barring[0] if barring else None)
                if not barring:
                    allowed.append(number)
            self.assertEqual(panel.allowed(), set_of(allowed))

    def test_by_plain_numbers(self):
        panel = Panel([LANG, SIZE], [{"size": ["small"], "lang": ["en"]}, {"lang": ["en", "fr"]}])
        self.assertEqual([panel.barred(number) for number in range(6)], [1, 0, 1, 1, None, None])
        self.assertEqual(panel.allowed(), 0b110000)


class Kept(unittest.TestCase):
    def everything(self, panel):
        return (panel.many(), panel.switches(), panel.rules(), panel.allowed(), panel.box({"lang": ["en"]}),
                [panel.told(number) for number in range(panel.many())],
                [panel.barred(number) for number in range(panel.many())])

    def test_what_is_handed_in_stays_and_may_be_changed_afterwards(self):
        switches = [("lang", ["en", "fr"]), ("size", ["big", "small"])]
        rules = [{"lang": ["en"], "size": ["big"]}, {"size": ["small"], "lang": ["fr"]}]
        before = copy.deepcopy((switches, rules))
        panel = Panel(switches, rules)
        told = self.everything(panel)
        self.assertEqual((switches, rules), before)
        switches[0][1].append("de")
        switches[1][1].clear()
        switches.pop()
        rules[0]["lang"].append("fr")
        rules[0]["ed"] = ["x"]
        rules[1].clear()
        rules.append({})
        self.assertEqual(self.everything(panel), told)

    def test_what_was_told_is_the_askers_own(self):
        panel = Panel([LANG, SIZE], [{"lang": ["de"], "size": ["big"]}])
        told = self.everything(panel)
        panel.switches().clear()
        rules = panel.rules()
        rules[0]["lang"].append("en")
        rules[0]["size"] = []
        rules.append({})
        self.assertEqual(self.everything(panel), told)
        self.assertIsNot(panel.rules()[0], panel.rules()[0])
        self.assertIsNot(panel.switches(), panel.switches())

    def test_boxes_and_settings_that_are_handed_in_stay(self):
        panel = Panel([LANG, SIZE])
        box = {"size": ["small"], "lang": ["de", "en"]}
        told = ["en", "small"]
        panel.box(box)
        panel.number_of(told)
        self.assertEqual(box, {"size": ["small"], "lang": ["de", "en"]})
        self.assertEqual(told, ["en", "small"])

    def test_a_rule_that_stands_twice_in_the_list_is_told_as_two(self):
        rule = {"lang": ["de"]}
        rules = Panel([LANG], [rule, rule]).rules()
        rules[0]["lang"].append("en")
        self.assertEqual(rules[1], {"lang": ["de"]})


if __name__ == "__main__":
    unittest.main()
