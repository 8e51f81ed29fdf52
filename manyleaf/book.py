"""Books: a plain book at each allowed choice of a panel, kept once for all choices that read alike."""

from manyleaf.errors import NoChoice, NoPart
from manyleaf.plain import Plain
from manyleaf.sets import grouped, in_order, in_set, union_of
from manyleaf.words import is_whole


class Book:
    def __init__(self, panel):
        self.panel = panel
        # The classes, each with its plain book, which is only read; the one with the least choice first.
        self.kept = [(panel.allowed(), Plain())]

    # What the choices of the within read, alike ones once; the plain books are only to be read.
    def rows_in(self, within):
        return [(choices & within, plain) for choices, plain in self.kept if choices & within != 0]

    def rows_with(self, name):
        rows = [(choices, plain) for choices, plain in self.kept if plain.has(name)]
        if rows == []:
            raise NoPart(name, None)
        return rows

    def names(self):
        names = {}
        for choices, plain in self.kept:
            for name in plain.names():
                names[name] = True
        return sorted(names)

    def where(self, name):
        return union_of([choices for choices, plain in self.rows_with(name)])

    def places(self, name):
        return grouped([(choices, plain.state(name)[:3]) for choices, plain in self.rows_with(name)])

    def contents(self, name):
        return grouped([(choices, plain.content_of(name)) for choices, plain in self.rows_with(name)])

    def plain(self, number):
        return self.row_of(number)[1].copied()

    def row_of(self, number):
        if is_whole(number) and 0 <= number < self.panel.many():
            for row in self.kept:
                if in_set(row[0], number):
                    return row
        raise NoChoice("this is no number of an allowed choice")

    def classes(self):
        return [choices for choices, plain in self.kept]

    def alike(self, name, number):
        there = self.row_of(number)[1]
        if not there.has(name):
            raise NoPart(name, number)
        record = there.state(name)
        return union_of([choices for choices, plain in self.rows_with(name) if plain.state(name) == record])

    def beneath(self, name):
        found = {}
        for choices, plain in self.rows_with(name):
            for below in plain.beneath(name):
                found[below] = found.get(below, 0) | choices
        return [(below, found[below]) for below in sorted(found)]

    def same(self, other):
        if self.classes() != other.classes():
            return False
        return all([mine[1].same(theirs[1]) for mine, theirs in zip(self.kept, other.kept)])


def gathered(panel, rows):
    book = Book(panel)
    book.kept = kept_rows(panel.allowed(), rows)
    return book


def kept_rows(allowed, rows):
    sets = {}
    plains = {}
    for choices, plain in rows:
        if choices & allowed != 0:
            key = plain.value_key()
            sets[key] = sets.get(key, 0) | (choices & allowed)
            plains[key] = plain
    return in_order([(sets[key], plains[key].copied()) for key in sets])


def copied_book(book):
    return gathered(book.panel, book.rows_in(book.panel.allowed()))
