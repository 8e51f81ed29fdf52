"""Books laid together: two that were made of an elder one give one book, and their clashes are told."""

from manyleaf.book import gathered
from manyleaf.kinds import is_clash, kind_of_word, settled
from manyleaf.plain import TOP, Plain


def plain_join(elder, one, other):
    plain = Plain()
    clashes = []
    for name in sorted(set(elder.names() + one.names() + other.names())):
        joined = joined_state(elder.state_or_none(name), one.state_or_none(name), other.state_or_none(name))
        lay_state(plain, name, joined[0])
        clashes.extend([(name, word) for word in joined[1]])
    clashes.extend([(name, "loose") for name in put_at_top(plain)])
    return (plain, sorted(clashes))


def lay_state(plain, name, state):
    if state is not None:
        plain.lay(name, state[0], state[1], state[2], state[3])


def joined_state(elder, one, other):
    if not is_clash(elder, one, other):
        return (settled(elder, one, other), [])
    if elder is None:
        return (min([one, other], key=record_key), ["both"])
    if one is None:
        return (other, ["gone"])
    if other is None:
        return (one, ["gone"])
    if one[0] != elder[0] or other[0] != elder[0]:
        return (elder, ["kind"])
    return joined_record(elder, one, other)


def record_key(record):
    return (record[0], record[1], record[2], kind_of_word(record[0]).shown(record[3]))


# The parent and the rank are taken together, so that a part never stands where nobody put it.
def joined_record(elder, one, other):
    place = settled(elder[1:3], one[1:3], other[1:3])
    words = ["place"] if is_clash(elder[1:3], one[1:3], other[1:3]) else []
    content = kind_of_word(elder[0]).joined(elder[3], one[3], other[3])
    return ((elder[0], place[0], place[1], content[0]), words + content[1])


def put_at_top(plain):
    loose = [name for name in plain.names() if not is_held(plain, plain.parent_of(name))]
    lay_at_top(plain, loose)
    # A part has one parent, so that rings have no part in common and each is broken by its own first part.
    firsts = [min(ring) for ring in rings_of(plain)]
    lay_at_top(plain, firsts)
    return loose + firsts


def is_held(plain, parent):
    return parent == TOP or (plain.has(parent) and kind_of_word(plain.kind_of(parent)).holds())


def lay_at_top(plain, names):
    for name in names:
        plain.lay(name, plain.kind_of(name), TOP, plain.rank_of(name), plain.content_of(name))


def rings_of(plain):
    rings = []
    # By the name of each part that was met, the part from which the way to it began.
    began = {}
    for start in plain.names():
        name = start
        while name != TOP and name not in began:
            began[name] = start
            name = plain.parent_of(name)
        if name != TOP and began[name] == start:
            rings.append(ring_of(plain, name))
    return rings


def ring_of(plain, start):
    ring = [start]
    name = plain.parent_of(start)
    while name != start:
        ring.append(name)
        name = plain.parent_of(name)
    return ring


def book_join(elder, one, other):
    rows = []
    sets = {}
    for choices, three in threes_of(elder, one, other):
        joined = plain_join(three[0], three[1], three[2])
        rows.append((choices, joined[0]))
        for clash in joined[1]:
            sets[clash] = sets.get(clash, 0) | choices
    return (gathered(elder.panel, rows), [(name, word, sets[(name, word)]) for name, word in sorted(sets)])


# The plain books that stand together at some choices, each three once.
def threes_of(elder, one, other):
    threes = []
    for choices, plain in elder.rows_in(elder.panel.allowed()):
        for fewer, plain_of_one in one.rows_in(choices):
            threes.extend([(fewest, (plain, plain_of_one, last)) for fewest, last in other.rows_in(fewer)])
    return threes
