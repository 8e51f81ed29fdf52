"""Panels: the switches with their settings, the numbers of the choices, and the rules that bar some of them."""

from manyleaf.errors import BadCond, BadPanel, NoChoice
from manyleaf.sets import in_set, set_of, union_of
from manyleaf.words import is_whole, is_word

MOST_SWITCHES = 5
LEAST_SETTINGS = 2
MOST_SETTINGS = 4
MOST_CHOICES = 256
MOST_RULES = 8


class Panel:
    def __init__(self, switches, rules=None):
        self.settings = read_switches(switches)
        self.tuples = settings_of_choices(self.settings)
        self.numbers = numbers_by_settings(self.tuples)
        self.sets = sets_of_settings(self.settings, self.tuples)
        self.kept_rules = self.read_rules(rules)
        self.bars = [self.box(rule) for rule in self.kept_rules]
        self.free = self.all_choices() & ~union_of(self.bars)
        if self.free == 0:
            raise NoChoice("the rules bar every choice")

    def read_rules(self, rules):
        if rules is None:
            return []
        if not isinstance(rules, list) or len(rules) > MOST_RULES:
            raise BadPanel("the rules are no list of at most eight")
        return [self.read_rule(rule) for rule in rules]

    def read_rule(self, rule):
        if not isinstance(rule, dict) or len(rule) == 0:
            raise BadPanel("a rule is no dict, or has no entry")
        try:
            self.box(rule)
        except BadCond:
            raise BadPanel("a rule is no box") from None
        return copied_rule(rule)

    def many(self):
        return len(self.tuples)

    def switches(self):
        return list(self.settings.items())

    def rules(self):
        return [copied_rule(rule) for rule in self.kept_rules]

    def number_of(self, settings):
        if not isinstance(settings, (list, tuple)) or not all([isinstance(setting, str) for setting in settings]):
            raise NoChoice("these are no settings of a choice")
        number = self.numbers.get(tuple(settings))
        if number is None:
            raise NoChoice("these are no settings of a choice")
        return number

    def told(self, number):
        self.need_number(number)
        return self.tuples[number]

    def need_number(self, number):
        if not is_whole(number) or not 0 <= number < self.many():
            raise NoChoice("this is no number of a choice")

    def all_choices(self):
        return (1 << self.many()) - 1

    def allowed(self):
        return self.free

    def box(self, terms):
        if not isinstance(terms, dict):
            raise BadCond("this is no box")
        choices = self.all_choices()
        for word in terms:
            choices = choices & self.term(word, terms[word])
        return choices

    def term(self, word, settings):
        if not isinstance(word, str) or word not in self.sets:
            raise BadCond("there is no such switch")
        if not are_unlike_words(settings) or settings == []:
            raise BadCond("this is no list of settings")
        if not all([setting in self.sets[word] for setting in settings]):
            raise BadCond("the switch has no such setting")
        return union_of([self.sets[word][setting] for setting in settings])

    # The choices parted by the settings of one switch, in the order of these.
    def parted(self, word):
        return list(self.sets[word].items())

    def barred(self, number):
        self.need_number(number)
        for place, bar in enumerate(self.bars):
            if in_set(bar, number):
                return place
        return None


def are_unlike_words(things):
    if not isinstance(things, list) or not all([is_word(thing) for thing in things]):
        return False
    return len(set(things)) == len(things)


def read_switches(switches):
    if not isinstance(switches, list) or not 1 <= len(switches) <= MOST_SWITCHES:
        raise BadPanel("the switches are no list of one to five")
    settings = {}
    many = 1
    for switch in switches:
        if not is_switch(switch) or switch[0] in settings:
            raise BadPanel("this is no switch, or it stands there twice")
        settings[switch[0]] = tuple(switch[1])
        many = many * len(switch[1])
    if many > MOST_CHOICES:
        raise BadPanel("there are too many choices")
    return settings


def is_switch(switch):
    if not isinstance(switch, tuple) or len(switch) != 2 or not is_word(switch[0]):
        return False
    return are_unlike_words(switch[1]) and LEAST_SETTINGS <= len(switch[1]) <= MOST_SETTINGS


def settings_of_choices(settings):
    tuples = [()]
    for word in settings:
        longer = []
        for ahead in tuples:
            longer.extend([ahead + (setting,) for setting in settings[word]])
        tuples = longer
    return tuples


def numbers_by_settings(tuples):
    numbers = {}
    for number, told in enumerate(tuples):
        numbers[told] = number
    return numbers


def sets_of_settings(settings, tuples):
    sets = {}
    for place, word in enumerate(settings):
        sets[word] = {}
        for setting in settings[word]:
            having = [number for number, told in enumerate(tuples) if told[place] == setting]
            sets[word][setting] = set_of(having)
    return sets


def copied_rule(rule):
    copied = {}
    for word in rule:
        copied[word] = list(rule[word])
    return copied
