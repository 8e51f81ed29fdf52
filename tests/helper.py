"""What several test files need: things of all kinds, panels, and plain books and books drawn from a seed."""

import itertools

from manyleaf import errors
from manyleaf.book import gathered
from manyleaf.panel import Panel
from manyleaf.plain import Plain

LANG = ("lang", ["en", "fr", "de"])
SIZE = ("size", ["big", "small"])
EDITION = ("ed", ["one", "two", "three", "four"])


def odd_things():
    return [
        None, True, False, -1, -2, 10 ** 9 + 1, 10 ** 40, -10 ** 40, 0.0, 1.0, 1.5, float("nan"), 1j, b"", b"en", "",
        " ", "0", "1", "en", "*", [], [0], ["en"], (), (0,), ("en",), {}, {"en": 1}, set(), {0}, frozenset("en"),
        range(3), object(), object, int, len, lambda: 0, Ellipsis, NotImplemented, ValueError("en"), [[]], ([],),
    ]


def set_of(members):
    return sum(2 ** number for number in members)


def members_of(choices):
    return [number for number in range(choices.bit_length()) if choices // 2 ** number % 2 == 1]


def settings_of(switches):
    return list(itertools.product(*[settings for word, settings in switches]))


def small_panels():
    return [
        Panel([("a", ["x", "y"])]),
        Panel([("a", ["x", "y", "z", "w"])], [{"a": ["w"]}]),
        Panel([SIZE, LANG]),
        Panel([LANG, SIZE], [{"lang": ["de"], "size": ["small"]}]),
        Panel([("a", ["x", "y"]), ("b", ["x", "y"]), ("x", ["a", "b"])]),
        Panel([(word, ["x", "y"]) for word in "abc"], [{"a": ["x"], "b": ["x"]}, {"c": ["y"], "a": ["y"]}]),
    ]


WORDS = ["a", "b", "ab", "abc", "lang", "size", "ed", "x", "en", "big", "abcdefgh"]


def drawn_panel(rng, most=16, barring=True):
    """Switches that bear words that are beginnings of one another, and rules that leave a choice."""
    while True:
        words = rng.sample(WORDS, rng.randint(1, 4))
        switches = [(word, rng.sample(WORDS, rng.randint(2, 4))) for word in words]
        many = len(settings_of(switches))
        if many > most:
            continue
        rules = [drawn_box(rng, switches) for _ in range(rng.randint(0, 3))] if barring else []
        barred = [told for told in settings_of(switches) if any(holds(switches, rule, told) for rule in rules)]
        if len(barred) < many:
            return Panel(switches, rules)


def drawn_box(rng, switches):
    picked = rng.sample(switches, rng.randint(1, len(switches)))
    return {word: rng.sample(settings, rng.randint(1, len(settings) - 1)) for word, settings in picked}


def holds(switches, box, told):
    words = [word for word, settings in switches]
    return all(told[words.index(word)] in settings for word, settings in box.items())


def drawn_set(rng, panel):
    kind = rng.randrange(4)
    if kind == 0:
        return panel.all_choices()
    if kind == 1:
        return panel.box(drawn_box(rng, panel.switches()))
    return rng.randrange(panel.all_choices() + 1)


NAMES = ["a", "ab", "abc", "b", "b.1", "b.10", "b.2", "c", "z9", "a.b.c.d.e.f."]
TEXTS = ["", " ", "a", "two words", "a|b", "a/b", "\\", "\\|/", ": * -", "~", "x" * 59, "y" * 60, "lang=en"]
RANKS = [0, 0, 1, 1, 2, 10, 10 ** 9]


def drawn_content(rng, kind):
    if kind != "table":
        return rng.choice(TEXTS)
    columns = rng.randint(1, 3)
    return tuple(tuple(rng.choice(TEXTS) for _ in range(columns)) for _ in range(rng.choice([1, 1, 2, 3, 6])))


def drawn_plain(rng, names=NAMES, most=8):
    plain = Plain()
    holders = [""]
    for name in rng.sample(names, rng.randint(0, min(most, len(names)))):
        kind = rng.choice(["chapter", "chapter", "para", "table"])
        plain.lay(name, kind, rng.choice(holders), rng.choice(RANKS), drawn_content(rng, kind))
        if kind == "chapter":
            holders.append(name)
    return plain


def records_of(plain):
    return {name: plain.state(name) for name in plain.names()}


def states_of(book):
    return {number: records_of(book.plain(number)) for number in members_of(book.panel.allowed())}


def plain_of(records):
    plain = Plain()
    for name, record in records.items():
        plain.lay(name, *record)
    return plain


def drawn_book(rng, panel, names=NAMES, most=6):
    """A few plain books that are near to one another, spread over the choices."""
    base = drawn_plain(rng, names, most)
    plains = [base] + [changed(rng, base, names) for _ in range(rng.randint(0, 4))]
    rows = {}
    for number in members_of(panel.allowed()):
        place = rng.randrange(len(plains))
        rows[place] = rows.get(place, 0) | 2 ** number
    return gathered(panel, [(choices, plains[place]) for place, choices in rows.items()])


def changed(rng, plain, names=NAMES):
    after = plain.copied()
    for _ in range(rng.randint(1, 3)):
        made_change(rng, after, names)
    return after


def made_change(rng, plain, names):
    name = rng.choice(names)
    if not plain.has(name):
        kind = rng.choice(["chapter", "para", "table"])
        plain.lay(name, kind, rng.choice(holders_of(plain)), rng.choice(RANKS), drawn_content(rng, kind))
        return
    kind, parent, rank, content = plain.state(name)
    way = rng.randrange(4)
    if way == 0:
        plain.drop(name)
    elif way == 1:
        content = with_other_cell(rng, content) if kind == "table" else drawn_content(rng, kind)
        plain.lay(name, kind, parent, rank, content)
    elif way == 2:
        beneath = plain.beneath(name) + [name]
        free = [holder for holder in holders_of(plain) if holder not in beneath]
        plain.lay(name, kind, rng.choice(free), rng.choice(RANKS), content)
    elif not plain.under(name):
        kind = rng.choice(["chapter", "para", "table"])
        plain.lay(name, kind, parent, rank, drawn_content(rng, kind))


def with_other_cell(rng, table):
    rows = [list(row) for row in table]
    rng.choice(rows)[rng.randrange(len(rows[0]))] = rng.choice(TEXTS)
    return tuple(tuple(row) for row in rows)


def holders_of(plain):
    return [""] + [name for name in plain.names() if plain.kind_of(name) == "chapter"]


def drawn_told(rng, names=NAMES):
    """The tuple of an edit, often one that a book of these names does not refuse."""
    name, other = rng.choice(names), rng.choice(names)
    parent = rng.choice(["", other, other, other])
    number = rng.choice([0, 0, 0, 1, 1, 2, 3, 59, 60])
    word = rng.choice(["put", "put", "write", "splice", "cell", "addrow", "cutrow", "cut", "move", "move", "wrap"])
    if word == "put":
        kind = rng.choice(["chapter", "chapter", "para", "table"])
        return (word, name, kind, parent, rng.choice(RANKS), drawn_content(rng, kind))
    if word == "addrow":
        return (word, name, number, tuple(rng.choice(TEXTS) for _ in range(rng.randint(1, 3))))
    things = {
        "write": (rng.choice(TEXTS),), "splice": (number, rng.choice([0, 0, 1, 2]), rng.choice(TEXTS)),
        "cell": (number, rng.choice([0, 0, 1, 2]), rng.choice(TEXTS)), "cutrow": (number,), "cut": (),
        "move": (parent, rng.choice(RANKS)), "wrap": (other, rng.choice(TEXTS)),
    }
    return (word, name) + things[word]


def about_of(told):
    return told[3] if told[0] == "put" else told[1]


def reckoned(records, told):
    """Points 35 and 36 by their words: the records that come, or (error class, part) where it is refused."""
    refusal = first_refusal(records, told)
    if refusal is not None:
        return refusal
    after = dict(records)
    word, part = told[0], told[1]
    kind, parent, rank, content = records.get(part, (None,) * 4)
    if word == "put":
        after[part] = (told[2], told[3], told[4], told[5])
    elif word == "write":
        after[part] = (kind, parent, rank, told[2])
    elif word == "splice":
        signs = list(content)
        signs[told[2]:told[2] + told[3]] = list(told[4])
        after[part] = (kind, parent, rank, "".join(signs))
    elif word == "cell":
        rows = [list(row) for row in content]
        rows[told[2]][told[3]] = told[4]
        after[part] = (kind, parent, rank, tuple(tuple(row) for row in rows))
    elif word == "addrow":
        rows = list(content)
        rows.insert(told[2], told[3])
        after[part] = (kind, parent, rank, tuple(rows))
    elif word == "cutrow":
        rows = list(content)
        rows.pop(told[2])
        after[part] = (kind, parent, rank, tuple(rows))
    elif word == "cut":
        after = {name: record for name, record in records.items() if part not in path_of(records, name)}
    elif word == "move":
        after[part] = (kind, told[2], told[3], content)
    else:
        after[told[2]] = ("chapter", parent, rank, told[3])
        after[part] = (kind, told[2], 0, content)
    return after


def path_of(records, name):
    path = []
    while name != "":
        path.append(name)
        name = records[name][1]
    return path


def first_refusal(records, told):
    word, part = told[0], told[1]
    about = about_of(told)
    if about != "" and about not in records:
        return (errors.NoPart, about)
    kind, content = (records[part][0], records[part][3]) if part in records else (None, None)
    due = []
    if word == "put":
        due += [(errors.Doubled, part)] if part in records else []
        due += [(errors.NoHolder, about)] if about != "" and records[about][0] != "chapter" else []
    elif word in ("write", "splice"):
        if kind == "table":
            return (errors.WrongKind, part)
        if word == "splice":
            due += [(errors.Far, part)] if told[2] + told[3] > len(content) else []
            due += [(errors.TooLong, part)] if len(content) - told[3] + len(told[4]) > 60 else []
    elif word in ("cell", "addrow", "cutrow"):
        if kind != "table":
            return (errors.WrongKind, part)
        far = {
            "cell": lambda: told[2] >= len(content) or told[3] >= len(content[0]),
            "addrow": lambda: told[2] > len(content) or len(told[3]) != len(content[0]),
            "cutrow": lambda: told[2] >= len(content) or len(content) < 2,
        }
        due += [(errors.Far, part)] if far[word]() else []
        due += [(errors.TooLong, part)] if word == "addrow" and len(content) == 6 else []
    elif word == "move":
        if told[2] != "" and told[2] not in records:
            return (errors.Lost, told[2])
        due += [(errors.Ring, part)] if part in path_of(records, told[2]) else []
        due += [(errors.NoHolder, told[2])] if told[2] != "" and records[told[2]][0] != "chapter" else []
    elif word == "wrap":
        due += [(errors.Doubled, told[2])] if told[2] in records else []
    return due[0] if due else None
