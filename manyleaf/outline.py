"""Outlines: what all choices of a within read, at once, and the same with conditions in the place of sets."""

from manyleaf.conds import tell_cond
from manyleaf.plain import TOP
from manyleaf.sets import in_order, union_of


def outline(book, within):
    choices = within & book.panel.allowed()
    levels = levels_of(book, choices)
    entries = []
    waiting = entries_at(levels, TOP, 1, choices)
    waiting.reverse()
    # Without recursion, as a tree may be deeper than Python's calls.
    while waiting != []:
        entry = waiting.pop()
        entries.append(entry)
        below = entries_at(levels, entry[1], entry[0] + 1, entry[4])
        below.reverse()
        waiting.extend(below)
    return entries


# By parent, then by (rank, name, kind): the contents, each with the choices that have it so.
def levels_of(book, within):
    levels = {}
    for choices, plain in book.rows_in(within):
        for name in plain.names():
            level = levels.setdefault(plain.parent_of(name), {})
            contents = level.setdefault((plain.rank_of(name), name, plain.kind_of(name)), {})
            content = plain.content_of(name)
            contents[content] = contents.get(content, 0) | choices
    return levels


def entries_at(levels, parent, depth, within):
    entries = []
    level = levels.get(parent, {})
    for rank, name, kind in sorted(level):
        contents = contents_in(level[(rank, name, kind)], within)
        if contents != []:
            choices = union_of([having for having, content in contents])
            entries.append((depth, name, kind, rank, choices, contents))
    return entries


def contents_in(contents, within):
    pairs = [(contents[content] & within, content) for content in contents]
    return in_order([pair for pair in pairs if pair[0] != 0])


def told_outline(book, within):
    above = [within & book.panel.allowed()]
    lines = []
    for depth, name, kind, rank, choices, contents in outline(book, within):
        above = above[:depth] + [choices]
        cond = tell_cond(book.panel, choices, above[depth - 1])
        told = [(tell_cond(book.panel, having, choices), content) for having, content in contents]
        lines.append((depth, name, kind, rank, cond, told))
    return lines
