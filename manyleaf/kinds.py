"""The kinds of parts: what fits in them, how it is shown and read, and how two contents are laid together."""

from manyleaf.words import is_text

MOST_ROWS = 6
MOST_CELLS = 6
ROW_SIGN = "/"
CELL_SIGN = "|"
STROKE = "\\"


class Kind:
    def holds(self):
        return False

    def fits(self, content):
        return is_text(content)

    def shown(self, content):
        return content

    def read_shown(self, text):
        return text if self.fits(text) else None

    def joined(self, base, one, other):
        return joined_whole(base, one, other)


class Chapter(Kind):
    def word(self):
        return "chapter"

    def holds(self):
        return True


class Para(Kind):
    def word(self):
        return "para"


class Table(Kind):
    def word(self):
        return "table"

    def fits(self, content):
        if not is_tuple_of(content, MOST_ROWS) or not all([is_row(row) for row in content]):
            return False
        return all([len(row) == len(content[0]) for row in content])

    def shown(self, content):
        return ROW_SIGN.join([shown_row(row) for row in content])

    def read_shown(self, text):
        content = read_table(text)
        return content if self.fits(content) else None

    def joined(self, base, one, other):
        if is_clash(base, one, other) and shape_of(one) == shape_of(base) and shape_of(other) == shape_of(base):
            return joined_cells(base, one, other)
        return joined_whole(base, one, other)


def kind_of_word(word):
    if not isinstance(word, str):
        return None
    for kind in [Chapter(), Para(), Table()]:
        if kind.word() == word:
            return kind
    return None


def is_tuple_of(thing, most):
    return isinstance(thing, tuple) and 1 <= len(thing) <= most


def is_row(thing):
    return is_tuple_of(thing, MOST_CELLS) and all([is_text(cell) for cell in thing])


def shown_row(row):
    return CELL_SIGN.join([shown_cell(cell) for cell in row])


# The stroke itself goes first, so that those put ahead of the other signs are not doubled.
def shown_cell(cell):
    shown = cell
    for sign in (STROKE, CELL_SIGN, ROW_SIGN):
        shown = shown.replace(sign, STROKE + sign)
    return shown


def read_table(text):
    rows = [[[]]]
    is_behind_stroke = False
    for sign in text:
        if is_behind_stroke:
            if sign not in (STROKE, CELL_SIGN, ROW_SIGN):
                return None
            rows[-1][-1].append(sign)
            is_behind_stroke = False
        elif sign == STROKE:
            is_behind_stroke = True
        elif sign == CELL_SIGN:
            rows[-1].append([])
        elif sign == ROW_SIGN:
            rows.append([[]])
        else:
            rows[-1][-1].append(sign)
    if is_behind_stroke:
        return None
    return tuple([row_of_signs(row) for row in rows])


def row_of_signs(row):
    return tuple(["".join(signs) for signs in row])


def is_clash(base, one, other):
    return one != other and one != base and other != base


def joined_whole(base, one, other):
    if is_clash(base, one, other):
        return (base, ["content"])
    return (settled(base, one, other), [])


def settled(base, one, other):
    if is_clash(base, one, other):
        return base
    return other if one == base else one


def shape_of(table):
    return (len(table), len(table[0]))


def joined_cells(base, one, other):
    rows = []
    words = []
    for row in range(len(base)):
        cells = []
        for column in range(len(base[row])):
            three = (base[row][column], one[row][column], other[row][column])
            cells.append(settled(three[0], three[1], three[2]))
            if is_clash(three[0], three[1], three[2]):
                words.append(f"cell {row} {column}")
        rows.append(tuple(cells))
    return (tuple(rows), words)
