"""Histories: the edits of a book, each of which can be taken back and done again, out of order too."""

from manyleaf.book import copied_book
from manyleaf.errors import EditError, IsLive, NoEdit, NotLive, StandsOn
from manyleaf.reach import deed_set, edited
from manyleaf.sets import least_choice
from manyleaf.words import is_whole


class History:
    def __init__(self, book):
        self.first = copied_book(book)
        self.now = self.first
        self.deeds = []
        # For each of the deeds whether it is live.
        self.truths = []

    def do(self, edit, reach):
        after = edited(self.now, edit, reach)
        self.deeds.append(Deed(edit, reach & self.now.panel.allowed(), deed_set(self.now, edit, reach)))
        self.truths.append(True)
        self.now = after
        return len(self.deeds)

    def undo(self, number):
        self.need_number(number)
        if not self.truths[number - 1]:
            raise NotLive(number)
        self.turn(number, False)

    def redo(self, number):
        self.need_number(number)
        if self.truths[number - 1]:
            raise IsLive(number)
        self.turn(number, True)

    def need_number(self, number):
        if not is_whole(number) or not 1 <= number <= len(self.deeds):
            raise NoEdit(number)

    def turn(self, number, truth):
        truths = self.truths[:number - 1] + [truth] + self.truths[number:]
        self.now = self.made_anew(truths)
        self.truths = truths

    def made_anew(self, truths):
        book = self.first
        for place, deed in enumerate(self.deeds):
            if truths[place]:
                book = done_again(book, place + 1, deed)
        return book

    def book_first(self):
        return copied_book(self.first)

    def book_now(self):
        return copied_book(self.now)

    def live(self):
        return [place + 1 for place, truth in enumerate(self.truths) if truth]

    def told(self, number):
        self.need_number(number)
        deed = self.deeds[number - 1]
        return (deed.edit.told(), deed.reach, deed.choices, self.truths[number - 1])


class Deed:
    def __init__(self, edit, reach, choices):
        self.edit = edit
        self.reach = reach
        self.choices = choices


def done_again(book, number, deed):
    missing = least_choice(deed.choices & ~deed_set(book, deed.edit, deed.reach))
    try:
        after = edited(book, deed.edit, deed.reach)
    except EditError as refusal:
        raise StandsOn(number, lesser_choice(missing, refusal.choice)) from None
    if missing is not None:
        raise StandsOn(number, missing)
    return after


# At least one of the two is no None: a refusal without a choice is that of a deed set that has lost all its choices.
def lesser_choice(one, other):
    return min([choice for choice in (one, other) if choice is not None])
