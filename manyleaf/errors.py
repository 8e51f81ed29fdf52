"""The refusals: each is a class of its own, and all of them stand beneath LeafError."""


class LeafError(ValueError):
    pass


class BadPanel(LeafError):
    pass


class NoChoice(LeafError):
    pass


class BadCond(LeafError):
    pass


class BadEdit(LeafError):
    pass


class NoRow(LeafError):
    pass


class BadPage(LeafError):
    def __init__(self, line, choice):
        self.line = line
        self.choice = choice


class Unlike(LeafError):
    def __init__(self, part, one, other):
        self.part = part
        self.one = one
        self.other = other


class NoEdit(LeafError):
    def __init__(self, number):
        self.number = number


class NotLive(LeafError):
    def __init__(self, number):
        self.number = number


class IsLive(LeafError):
    def __init__(self, number):
        self.number = number


class StandsOn(LeafError):
    def __init__(self, number, choice):
        self.number = number
        self.choice = choice


class NoEditor(LeafError):
    def __init__(self, editor):
        self.editor = editor


class EditError(LeafError):
    def __init__(self, part, choice=None):
        self.part = part
        self.choice = choice


class NoPart(EditError):
    pass


class Doubled(EditError):
    pass


class Lost(EditError):
    pass


class Ring(EditError):
    pass


class NoHolder(EditError):
    pass


class WrongKind(EditError):
    pass


class Far(EditError):
    pass


class TooLong(EditError):
    pass
