"""The rows of a desk: read into the things that are told in them, and the answers laid out as texts."""

from manyleaf.conds import tell_choice, tell_cond
from manyleaf.errors import NoRow
from manyleaf.kinds import Table, kind_of_word
from manyleaf.plain import TOP
from manyleaf.tuples import edit_of
from manyleaf.words import is_word, read_number

SHARED = "-"
TOP_WORD = "-"
RULE_MARK = "!"

# What stands behind the first word of a row: an editor's name; such a name or the shared book; a number; any word;
# or, at the end, a rest, which is all that is left, blanks too.
ROW_FORMS = {
    "panel": ("rest",),
    "open": ("rest",),
    "editor": ("name",),
    "edit": ("name", "word", "rest"),
    "undo": ("name", "number"),
    "redo": ("name", "number"),
    "live": ("name",),
    "send": ("name",),
    "page": ("book",),
    "view": ("book", "word"),
    "read": ("book", "word"),
    "books": ("book",),
    "lines": ("rest",),
}
DEED_FORMS = {
    "put": ("word", "word", "word", "number", "rest"),
    "write": ("word", "rest"),
    "splice": ("word", "number", "number", "rest"),
    "cell": ("word", "number", "number", "rest"),
    "addrow": ("word", "number", "rest"),
    "cutrow": ("word", "number"),
    "cut": ("word",),
    "move": ("word", "word", "number"),
    "wrap": ("word", "word", "rest"),
}


# A list of the first word and of the things behind it.
def read_row(row):
    if not isinstance(row, str):
        raise NoRow("a row is a text")
    word = first_word(row)
    if word not in ROW_FORMS:
        raise NoRow("there is no such row")
    return read_things(row, ROW_FORMS[word])


def read_deed(text):
    word = first_word(text)
    if word not in DEED_FORMS:
        raise NoRow("there is no such deed")
    return read_things(text, DEED_FORMS[word])


def first_word(text):
    return text.split(" ")[0]


def read_things(text, forms):
    pieces = text.split(" ", len(forms)) if forms[-1] == "rest" else text.split(" ")
    if len(pieces) != len(forms) + 1:
        raise NoRow("there are too few or too many words")
    return pieces[:1] + [read_thing(piece, form) for piece, form in zip(pieces[1:], forms)]


def read_thing(piece, form):
    if form == "number":
        return need_number(read_number(piece))
    is_name = is_word(piece) or (form == "book" and piece == SHARED)
    if form in ("name", "book") and not is_name:
        raise NoRow("this is no name of an editor")
    return piece


def need_number(number):
    if number is None:
        raise NoRow("this is no number")
    return number


# The switches and the rules, as a panel is made of them.
def read_panel_words(text):
    words = text.split(" ")
    switches = [read_switch(word) for word in words if not word.startswith(RULE_MARK)]
    rules = [read_rule(word) for word in words if word.startswith(RULE_MARK)]
    return (switches, rules)


def read_switch(word):
    if "&" in word:
        raise NoRow("a switch has one term")
    return read_term(word)


def read_rule(word):
    rule = {}
    for text in word[len(RULE_MARK):].split("&"):
        term = read_term(text)
        if term[0] in rule:
            raise NoRow("a switch stands twice in a rule")
        rule[term[0]] = term[1]
    return rule


def read_term(text):
    sides = text.split("=")
    if len(sides) != 2:
        raise NoRow("there is not one sign = in a term")
    return (sides[0], sides[1].split(","))


# What a deed tells wrongly is None in the tuple, which then makes no edit.
def edit_of_deed(deed):
    things = list(deed)
    if deed[0] == "put":
        things[3] = read_parent(deed[3])
        things[5] = read_content(deed[2], deed[5])
    elif deed[0] == "move":
        things[2] = read_parent(deed[2])
    elif deed[0] == "addrow":
        things[3] = read_cells(deed[3])
    return edit_of(tuple(things))


def read_parent(word):
    if word == "":
        return None
    return TOP if word == TOP_WORD else word


def read_content(word, text):
    kind = kind_of_word(word)
    return None if kind is None else kind.read_shown(text)


def read_cells(text):
    table = Table().read_shown(text)
    return table[0] if table is not None and len(table) == 1 else None


def laid_clashes(panel, clashes):
    return " ".join([laid_clash(panel, name, word, choices) for name, word, choices in clashes])


def laid_clash(panel, name, word, choices):
    pointed = word.replace(" ", ".")
    cond = tell_cond(panel, choices, panel.allowed())
    return f"{name}/{pointed}/{cond}"


def laid_numbers(numbers):
    return " ".join([str(number) for number in numbers])


def laid_lines(lines):
    return "\n".join([laid_line(depth, name, kind, rank, content) for depth, name, kind, rank, content in lines])


def laid_line(depth, name, kind, rank, content):
    shown = kind_of_word(kind).shown(content)
    return f"{depth} {name} {kind} {rank} {shown}"


def laid_class(panel, choice, choices):
    first = tell_choice(panel, choice)
    cond = tell_cond(panel, choices, panel.allowed())
    return f"{first} {cond}"


def laid_shown(panel, line, choice, paper):
    if choice is not None:
        seen = tell_choice(panel, choice)
        return f"{line} {seen}"
    return " ".join([f"{line} -"] + [laid_bar(panel, number, rule) for number, rule in paper])


def laid_bar(panel, number, rule):
    told = tell_choice(panel, number)
    return f"{told}/{rule}"
