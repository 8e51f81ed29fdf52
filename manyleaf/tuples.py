"""Edits made of the tuples that tell them."""

from manyleaf.edits import AddRow, Cell, Cut, CutRow, Move, Put, Splice, Wrap, Write
from manyleaf.errors import BadEdit


def put_of(things):
    return Put(things[0], things[1], things[2], things[3], things[4])


def write_of(things):
    return Write(things[0], things[1])


def splice_of(things):
    return Splice(things[0], things[1], things[2], things[3])


def cell_of(things):
    return Cell(things[0], things[1], things[2], things[3])


def addrow_of(things):
    return AddRow(things[0], things[1], things[2])


def cutrow_of(things):
    return CutRow(things[0], things[1])


def cut_of(things):
    return Cut(things[0])


def move_of(things):
    return Move(things[0], things[1], things[2])


def wrap_of(things):
    return Wrap(things[0], things[1], things[2])


# By the word, how many things stand behind it, and what makes the edit of them.
FORMS = {
    "put": (5, put_of),
    "write": (2, write_of),
    "splice": (4, splice_of),
    "cell": (4, cell_of),
    "addrow": (3, addrow_of),
    "cutrow": (2, cutrow_of),
    "cut": (1, cut_of),
    "move": (3, move_of),
    "wrap": (3, wrap_of),
}


def edit_of(told):
    if not isinstance(told, tuple) or len(told) == 0 or not isinstance(told[0], str) or told[0] not in FORMS:
        raise BadEdit("this is no tuple with a word of an edit")
    form = FORMS[told[0]]
    if len(told) - 1 != form[0]:
        raise BadEdit("there are too few or too many things behind the word")
    make = form[1]
    return make(told[1:])
