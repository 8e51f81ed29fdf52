"""The edits: each is made of things that are looked at then, and done in a plain book, or refused by it."""

from manyleaf.errors import BadEdit, Doubled, Far, Lost, NoHolder, NoPart, Ring, TooLong, WrongKind
from manyleaf.kinds import MOST_ROWS, is_row, kind_of_word
from manyleaf.plain import TOP
from manyleaf.words import LONGEST_TEXT, is_name, is_rank, is_text


class Edit:
    def made(self):
        return None

    def need(self, plain, choice=None):
        if self.about() != TOP and not plain.has(self.about()):
            raise NoPart(self.about(), choice)
        self.need_rest(plain, choice)

    def on(self, plain, choice=None):
        self.need(plain, choice)
        self.change(plain)


class Put(Edit):
    def __init__(self, name, kind, parent, rank, content):
        insist(is_name(name) and is_parent(parent) and is_rank(rank))
        insist(kind_of_word(kind) is not None)
        insist(kind_of_word(kind).fits(content))
        self.name = name
        self.kind = kind
        self.parent = parent
        self.rank = rank
        self.content = content

    def about(self):
        return self.parent

    def made(self):
        return self.name

    def told(self):
        return ("put", self.name, self.kind, self.parent, self.rank, self.content)

    def need_rest(self, plain, choice):
        need_new(plain, self.name, choice)
        need_holder(plain, self.parent, choice)

    def change(self, plain):
        plain.lay(self.name, self.kind, self.parent, self.rank, self.content)


class PartEdit(Edit):
    def __init__(self, part):
        insist(is_name(part))
        self.part = part

    def about(self):
        return self.part


class TextEdit(PartEdit):
    def __init__(self, part):
        PartEdit.__init__(self, part)

    def need_rest(self, plain, choice):
        if plain.kind_of(self.part) == "table":
            raise WrongKind(self.part, choice)
        self.need_text(plain.content_of(self.part), choice)

    def change(self, plain):
        rewrite(plain, self.part, self.new_text(plain.content_of(self.part)))


class Write(TextEdit):
    def __init__(self, part, text):
        TextEdit.__init__(self, part)
        insist(is_text(text))
        self.text = text

    def told(self):
        return ("write", self.part, self.text)

    def need_text(self, old, choice):
        pass

    def new_text(self, old):
        return self.text


class Splice(TextEdit):
    def __init__(self, part, at, size, text):
        TextEdit.__init__(self, part)
        insist(is_rank(at) and is_rank(size) and is_text(text))
        self.at = at
        self.size = size
        self.text = text

    def told(self):
        return ("splice", self.part, self.at, self.size, self.text)

    def need_text(self, old, choice):
        if self.at + self.size > len(old):
            raise Far(self.part, choice)
        if len(old) - self.size + len(self.text) > LONGEST_TEXT:
            raise TooLong(self.part, choice)

    def new_text(self, old):
        return old[:self.at] + self.text + old[self.at + self.size:]


class TableEdit(PartEdit):
    def __init__(self, part):
        PartEdit.__init__(self, part)

    def need_rest(self, plain, choice):
        if plain.kind_of(self.part) != "table":
            raise WrongKind(self.part, choice)
        self.need_table(plain.content_of(self.part), choice)

    def change(self, plain):
        rewrite(plain, self.part, self.new_table(plain.content_of(self.part)))


class Cell(TableEdit):
    def __init__(self, part, row, column, text):
        TableEdit.__init__(self, part)
        insist(is_rank(row) and is_rank(column) and is_text(text))
        self.row = row
        self.column = column
        self.text = text

    def told(self):
        return ("cell", self.part, self.row, self.column, self.text)

    def need_table(self, old, choice):
        if self.row >= len(old) or self.column >= len(old[0]):
            raise Far(self.part, choice)

    def new_table(self, old):
        cells = old[self.row]
        row = cells[:self.column] + (self.text,) + cells[self.column + 1:]
        return old[:self.row] + (row,) + old[self.row + 1:]


class AddRow(TableEdit):
    def __init__(self, part, at, cells):
        TableEdit.__init__(self, part)
        insist(is_rank(at) and is_row(cells))
        self.at = at
        self.cells = cells

    def told(self):
        return ("addrow", self.part, self.at, self.cells)

    def need_table(self, old, choice):
        if self.at > len(old) or len(self.cells) != len(old[0]):
            raise Far(self.part, choice)
        if len(old) >= MOST_ROWS:
            raise TooLong(self.part, choice)

    def new_table(self, old):
        return old[:self.at] + (self.cells,) + old[self.at:]


class CutRow(TableEdit):
    def __init__(self, part, at):
        TableEdit.__init__(self, part)
        insist(is_rank(at))
        self.at = at

    def told(self):
        return ("cutrow", self.part, self.at)

    def need_table(self, old, choice):
        if self.at >= len(old) or len(old) == 1:
            raise Far(self.part, choice)

    def new_table(self, old):
        return old[:self.at] + old[self.at + 1:]


class Cut(PartEdit):
    def told(self):
        return ("cut", self.part)

    def need_rest(self, plain, choice):
        pass

    def change(self, plain):
        plain.drop(self.part)


class Move(PartEdit):
    def __init__(self, part, parent, rank):
        PartEdit.__init__(self, part)
        insist(is_parent(parent) and is_rank(rank))
        self.parent = parent
        self.rank = rank

    def told(self):
        return ("move", self.part, self.parent, self.rank)

    def need_rest(self, plain, choice):
        if self.parent != TOP and not plain.has(self.parent):
            raise Lost(self.parent, choice)
        if self.part in way_up(plain, self.parent):
            raise Ring(self.part, choice)
        need_holder(plain, self.parent, choice)

    def change(self, plain):
        place(plain, self.part, self.parent, self.rank)


class Wrap(PartEdit):
    def __init__(self, part, name, text):
        PartEdit.__init__(self, part)
        insist(is_name(name) and is_text(text))
        self.name = name
        self.text = text

    def made(self):
        return self.name

    def told(self):
        return ("wrap", self.part, self.name, self.text)

    def need_rest(self, plain, choice):
        need_new(plain, self.name, choice)

    def change(self, plain):
        plain.lay(self.name, "chapter", plain.parent_of(self.part), plain.rank_of(self.part), self.text)
        place(plain, self.part, self.name, 0)


def insist(truth):
    if not truth:
        raise BadEdit("a thing in the edit is not what it has to be")


def is_parent(thing):
    return is_name(thing) or (isinstance(thing, str) and thing == TOP)


def need_new(plain, name, choice):
    if plain.has(name):
        raise Doubled(name, choice)


def need_holder(plain, parent, choice):
    if parent != TOP and not kind_of_word(plain.kind_of(parent)).holds():
        raise NoHolder(parent, choice)


# The part itself is on its way up, the top is not.
def way_up(plain, part):
    way = []
    name = part
    while name != TOP:
        way.append(name)
        name = plain.parent_of(name)
    return way


def rewrite(plain, part, content):
    plain.lay(part, plain.kind_of(part), plain.parent_of(part), plain.rank_of(part), content)


def place(plain, part, parent, rank):
    plain.lay(part, plain.kind_of(part), parent, rank, plain.content_of(part))
