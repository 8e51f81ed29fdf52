"""Views: a book seen at some of its choices, with conditions that tell what is not alike at all of them."""

from manyleaf.errors import NoChoice
from manyleaf.outline import told_outline
from manyleaf.sets import least_choice, union_of


class View:
    def __init__(self, book, within):
        self.book = book
        self.seen = within & book.panel.allowed()
        if self.seen == 0:
            raise NoChoice("the view has no allowed choice")

    def lines(self):
        return told_outline(self.book, self.seen)

    def shared(self):
        return [name for name, other in self.others() if other is None]

    def apart(self):
        one = least_choice(self.seen)
        return [(name, one, other) for name, other in self.others() if other is not None]

    # Each part, with the least choice that reads something else of it than the least of all does, or None.
    def others(self):
        rows = self.book.rows_in(self.seen)
        names = [name for name in self.book.names() if self.book.where(name) & self.seen != 0]
        first = self.book.plain(least_choice(self.seen))
        return [(name, least_choice(unlike_choices(rows, first, name))) for name in names]

    def switches_open(self):
        return [word for word, settings in self.book.panel.switches() if self.is_open(word)]

    def is_open(self, word):
        met = [setting for setting, having in self.book.panel.parted(word) if having & self.seen != 0]
        return len(met) > 1


def unlike_choices(rows, first, name):
    state = first.state_or_none(name)
    return union_of([choices for choices, plain in rows if plain.state_or_none(name) != state])
