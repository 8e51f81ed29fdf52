"""The desk: keeps a panel, a shared book and editors with their histories, and answers rows of text."""

from manyleaf.book import Book
from manyleaf.conds import read_cond
from manyleaf.errors import NoChoice, NoEditor, NoRow
from manyleaf.history import History
from manyleaf.joins import book_join
from manyleaf.pages import laid_out, read_page, shown_lines, written
from manyleaf.panel import Panel
from manyleaf.plain import TOP
from manyleaf.reach import seen_alike
from manyleaf.rows import (
    SHARED, edit_of_deed, laid_class, laid_clashes, laid_lines, laid_numbers, laid_shown, read_deed, read_panel_words,
    read_row,
)
from manyleaf.sets import least_choice, size_of
from manyleaf.views import View

DONE = "ok"
ALIKE_MARK = "~"


def answer_panel(desk, things):
    read = read_panel_words(things[1])
    panel = Panel(read[0], read[1])
    desk.panel = panel
    desk.common = Book(panel)
    desk.editors = {}
    return DONE


def answer_open(desk, things):
    desk.common = read_page(desk.panel, things[1])
    desk.editors = {}
    return DONE


def answer_editor(desk, things):
    if things[1] in desk.editors:
        raise NoEditor(things[1])
    desk.editors[things[1]] = History(desk.common)
    return DONE


def answer_edit(desk, things):
    deed = read_deed(things[3])
    is_alike = things[2].startswith(ALIKE_MARK)
    within = read_cond(desk.panel, things[2][len(ALIKE_MARK):] if is_alike else things[2])
    edit = edit_of_deed(deed)
    history = history_of(desk, things[1])
    reach = alike_reach(history.book_now(), edit, within) if is_alike else within
    return str(history.do(edit, reach))


def alike_reach(book, edit, within):
    if edit.about() == TOP:
        return book.panel.all_choices()
    return seen_alike(book, edit.about(), within)


def answer_undo(desk, things):
    history_of(desk, things[1]).undo(things[2])
    return DONE


def answer_redo(desk, things):
    history_of(desk, things[1]).redo(things[2])
    return DONE


def answer_live(desk, things):
    return laid_numbers(history_of(desk, things[1]).live())


def answer_send(desk, things):
    history = history_of(desk, things[1])
    joined = book_join(history.book_first(), history.book_now(), desk.common)
    desk.common = joined[0]
    desk.editors[things[1]] = History(joined[0])
    return laid_clashes(desk.panel, joined[1])


def answer_page(desk, things):
    return written(book_of(desk, things[1]))


def answer_view(desk, things):
    within = read_cond(desk.panel, things[2])
    view = View(book_of(desk, things[1]), within)
    return "\n".join(laid_out(view.lines()))


def answer_read(desk, things):
    choices = read_cond(desk.panel, things[2])
    book = book_of(desk, things[1])
    if size_of(choices) != 1:
        raise NoChoice("the condition tells not just one choice")
    return laid_lines(book.plain(least_choice(choices)).lines())


def answer_books(desk, things):
    classes = book_of(desk, things[1]).classes()
    return "\n".join([laid_class(desk.panel, least_choice(choices), choices) for choices in classes])


def answer_lines(desk, things):
    shown = shown_lines(desk.panel, things[1])
    return "\n".join([laid_shown(desk.panel, line, choice, paper) for line, choice, paper in shown])


ANSWERS = {
    "panel": answer_panel,
    "open": answer_open,
    "editor": answer_editor,
    "edit": answer_edit,
    "undo": answer_undo,
    "redo": answer_redo,
    "live": answer_live,
    "send": answer_send,
    "page": answer_page,
    "view": answer_view,
    "read": answer_read,
    "books": answer_books,
    "lines": answer_lines,
}


def history_of(desk, name):
    if name not in desk.editors:
        raise NoEditor(name)
    return desk.editors[name]


def book_of(desk, name):
    return desk.common if name == SHARED else history_of(desk, name).book_now()


class Desk:
    def __init__(self):
        self.panel = None
        self.common = None
        self.editors = {}

    def say(self, row):
        things = read_row(row)
        if self.panel is None and things[0] != "panel":
            raise NoRow("there is no panel yet")
        answer = ANSWERS[things[0]]
        return answer(self, things)
