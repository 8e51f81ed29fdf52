"""Edits done in a book at just those choices that they are to reach."""

from manyleaf.book import gathered
from manyleaf.errors import NoPart, Unlike
from manyleaf.plain import TOP
from manyleaf.sets import in_order, least_choice, union_of


def seen_alike(book, name, within):
    having = choices_with(book, name, within)
    if having == 0:
        raise NoPart(name, None)
    one = least_choice(having)
    alike = book.alike(name, one)
    other = least_choice(having & ~alike)
    if other is not None:
        raise Unlike(name, one, other)
    return alike


def choices_with(book, name, within):
    return union_of([choices for choices, plain in book.rows_in(within) if plain.has(name)])


def deed_set(book, edit, reach):
    if edit.about() == TOP:
        return reach & book.panel.allowed()
    return choices_with(book, edit.about(), reach)


def edited(book, edit, reach):
    deed = deed_set(book, edit, reach)
    if deed == 0:
        raise NoPart(edit.about(), None)
    rows = book.rows_in(book.panel.allowed() & ~deed)
    # In the order of the least choices, so that the first refusal is the one of the least choice of all.
    for choices, plain in in_order(book.rows_in(deed)):
        after = plain.copied()
        edit.on(after, least_choice(choices))
        rows.append((choices, after))
    return gathered(book.panel, rows)
