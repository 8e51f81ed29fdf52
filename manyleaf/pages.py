"""Pages: books written as texts, and texts read as books."""

from manyleaf.book import gathered
from manyleaf.conds import read_cond
from manyleaf.errors import BadCond, BadPage
from manyleaf.kinds import kind_of_word
from manyleaf.outline import told_outline
from manyleaf.plain import TOP, Plain
from manyleaf.sets import choices_of, in_set, least_choice, union_of
from manyleaf.words import is_name, is_rank, read_number

CONTENT_MARK = ":"


def written(book):
    return "\n".join(laid_out(told_outline(book, book.panel.allowed())))


def laid_out(lines):
    texts = []
    for depth, name, kind, rank, cond, contents in lines:
        texts.append(f"{depth} {name} {kind} {rank} {cond}")
        for part_cond, content in contents:
            shown = kind_of_word(kind).shown(content)
            texts.append(f"{CONTENT_MARK} {part_cond} {shown}")
    return texts


def read_page(panel, text):
    parts = read_parts(panel, text)
    return gathered(panel, [(1 << number, plain_at(parts, number)) for number in choices_of(panel.allowed())])


def plain_at(parts, number):
    plain = Plain()
    for part in parts:
        if in_set(part.seen, number):
            plain.lay(part.name, part.kind.word(), part.parent, part.rank, part.content_at(number))
    return plain


def shown_lines(panel, text):
    shown = []
    for part in read_parts(panel, text):
        paper = [] if part.seen != 0 else paper_of(panel, part.taken)
        shown.append((part.line, least_choice(part.seen), paper))
    return shown


def paper_of(panel, choices):
    return [(number, panel.barred(number)) for number in choices_of(choices)]


def read_parts(panel, text):
    page = Page(panel)
    lines = [] if text == "" else text.split("\n")
    for number, line in enumerate(lines, start=1):
        if line.startswith(CONTENT_MARK):
            page.add_content_line(number, line)
        else:
            page.look_back()
            page.add_part_line(number, line)
    page.look_back()
    return page.parts


class PartLine:
    def __init__(self, line, name, kind, rank):
        self.line = line
        self.name = name
        self.kind = kind
        self.rank = rank
        self.parent = TOP
        # The choices that the conditions take, barred ones too, and the allowed ones among them.
        self.taken = 0
        self.seen = 0
        self.texts = []

    def content_at(self, number):
        for choices, content in self.texts:
            if in_set(choices, number):
                return content
        return None

    def filled(self):
        return union_of([choices for choices, content in self.texts])


class Page:
    def __init__(self, panel):
        self.panel = panel
        self.parts = []
        # The way down to the last part line, one part line for each depth.
        self.way = []
        self.seen_by_name = {}

    def look_back(self):
        if self.parts != []:
            part = self.parts[-1]
            choice = least_choice(part.seen & ~part.filled())
            if choice is not None:
                raise BadPage(part.line, choice)

    def add_part_line(self, number, line):
        words = line.split(" ")
        if len(words) != 5:
            raise BadPage(number, None)
        depth = read_number(words[0])
        part = PartLine(number, words[1], kind_of_word(words[2]), read_number(words[3]))
        if depth is None or not 1 <= depth <= len(self.way) + 1:
            raise BadPage(number, None)
        if not is_name(part.name) or part.kind is None or not is_rank(part.rank):
            raise BadPage(number, None)
        self.place(part, self.way[:depth - 1], self.read_choices(number, words[4]))
        self.way = self.way[:depth - 1] + [part]
        self.parts.append(part)

    def place(self, part, way, choices):
        part.taken = choices
        if way != []:
            if not way[-1].kind.holds():
                raise BadPage(part.line, None)
            part.parent = way[-1].name
            part.taken = choices & way[-1].taken
        part.seen = part.taken & self.panel.allowed()
        ahead = self.seen_by_name.get(part.name, 0)
        need_none(part.line, part.seen & ahead)
        self.seen_by_name[part.name] = ahead | part.seen

    def read_choices(self, number, cond):
        try:
            return read_cond(self.panel, cond)
        except BadCond:
            raise BadPage(number, None) from None

    def add_content_line(self, number, line):
        pieces = line.split(" ", 2)
        if self.parts == [] or len(pieces) != 3 or pieces[0] != CONTENT_MARK:
            raise BadPage(number, None)
        part = self.parts[-1]
        choices = self.read_choices(number, pieces[1]) & part.seen
        content = part.kind.read_shown(pieces[2])
        if content is None:
            raise BadPage(number, None)
        need_none(number, choices & part.filled())
        part.texts.append((choices, content))


def need_none(number, choices):
    if choices != 0:
        raise BadPage(number, least_choice(choices))
