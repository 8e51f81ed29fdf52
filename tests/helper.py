"""What several test files need: things of all kinds, panels, and plain books and books drawn from a seed."""

import itertools

from manyleaf.panel import Panel
from manyleaf.plain import Plain

LANG = ("lang", ["en", "fr", "de"])
SIZE = ("size", ["big", "small"])
EDITION = ("ed", ["one", "two", "three", "four"])


def odd_things():
    return [
        None, True, False, -1, -2, 10 ** 9 + 1, 10 ** 40, -10 ** 40, 0.0, 1.0, 1.5, float("nan"), 1j, b"", b"en", "",
        " ", "0", "1", "en", "*", [], [0], ["en"], (), (0,), ("en",), {}, {"en": 1}, set(), {0}, frozenset("en"),
        range(3), object(), object, int, len, lambda: 0, Ellipsis, NotImplemented, ValueError("en"), [[]], ([],),
    ]


def set_of(members):
    return sum(2 ** number for number in members)


def members_of(choices):
    return [number for number in range(choices.bit_length()) if choices // 2 ** number % 2 == 1]


def settings_of(switches):
    return list(itertools.product(*[settings for word, settings in switches]))


def small_panels():
    return [
        Panel([("a", ["x", "y"])]),
        Panel([("a", ["x", "y", "z", "w"])], [{"a": ["w"]}]),
        Panel([SIZE, LANG]),
        Panel([LANG, SIZE], [{"lang": ["de"], "size": ["small"]}]),
        Panel([("a", ["x", "y"]), ("b", ["x", "y"]), ("x", ["a", "b"])]),
        Panel([(word, ["x", "y"]) for word in "abc"], [{"a": ["x"], "b": ["x"]}, {"c": ["y"], "a": ["y"]}]),
    ]


WORDS = ["a", "b", "ab", "abc", "lang", "size", "ed", "x", "en", "big", "abcdefgh"]


def drawn_panel(rng, most=16, barring=True):
    """Switches that bear words that are beginnings of one another, and rules that leave a choice."""
    while True:
        words = rng.sample(WORDS, rng.randint(1, 4))
        switches = [(word, rng.sample(WORDS, rng.randint(2, 4))) for word in words]
        many = len(settings_of(switches))
        if many > most:
            continue
        rules = [drawn_box(rng, switches) for _ in range(rng.randint(0, 3))] if barring else []
        barred = [told for told in settings_of(switches) if any(holds(switches, rule, told) for rule in rules)]
        if len(barred) < many:
            return Panel(switches, rules)


def drawn_box(rng, switches):
    picked = rng.sample(switches, rng.randint(1, len(switches)))
    return {word: rng.sample(settings, rng.randint(1, len(settings) - 1)) for word, settings in picked}


def holds(switches, box, told):
    words = [word for word, settings in switches]
    return all(told[words.index(word)] in settings for word, settings in box.items())


def drawn_set(rng, panel):
    kind = rng.randrange(4)
    if kind == 0:
        return panel.all_choices()
    if kind == 1:
        return panel.box(drawn_box(rng, panel.switches()))
    return rng.randrange(panel.all_choices() + 1)


NAMES = ["a", "ab", "abc", "b", "b.1", "b.10", "b.2", "c", "z9", "a.b.c.d.e.f."]
TEXTS = ["", " ", "a", "two words", "a|b", "a/b", "\\", "\\|/", ": * -", "~", "x" * 59, "y" * 60, "lang=en"]
RANKS = [0, 0, 1, 1, 2, 10, 10 ** 9]


def drawn_content(rng, kind):
    if kind != "table":
        return rng.choice(TEXTS)
    columns = rng.randint(1, 3)
    return tuple(tuple(rng.choice(TEXTS) for _ in range(columns)) for _ in range(rng.choice([1, 1, 2, 3, 6])))


def drawn_plain(rng, names=NAMES, most=8):
    plain = Plain()
    holders = [""]
    for name in rng.sample(names, rng.randint(0, min(most, len(names)))):
        kind = rng.choice(["chapter", "chapter", "para", "table"])
        plain.lay(name, kind, rng.choice(holders), rng.choice(RANKS), drawn_content(rng, kind))
        if kind == "chapter":
            holders.append(name)
    return plain


def records_of(plain):
    return {name: plain.state(name) for name in plain.names()}


def plain_of(records):
    plain = Plain()
    for name, record in records.items():
        plain.lay(name, *record)
    return plain


def changed(rng, plain, names=NAMES):
    after = plain.copied()
    for _ in range(rng.randint(1, 3)):
        made_change(rng, after, names)
    return after


def made_change(rng, plain, names):
    name = rng.choice(names)
    if not plain.has(name):
        kind = rng.choice(["chapter", "para", "table"])
        plain.lay(name, kind, rng.choice(holders_of(plain)), rng.choice(RANKS), drawn_content(rng, kind))
        return
    kind, parent, rank, content = plain.state(name)
    way = rng.randrange(4)
    if way == 0:
        plain.drop(name)
    elif way == 1:
        plain.lay(name, kind, parent, rank, drawn_content(rng, kind))
    elif way == 2:
        beneath = plain.beneath(name) + [name]
        free = [holder for holder in holders_of(plain) if holder not in beneath]
        plain.lay(name, kind, rng.choice(free), rng.choice(RANKS), content)
    elif not plain.under(name):
        kind = rng.choice(["chapter", "para", "table"])
        plain.lay(name, kind, parent, rank, drawn_content(rng, kind))


def holders_of(plain):
    return [""] + [name for name in plain.names() if plain.kind_of(name) == "chapter"]
