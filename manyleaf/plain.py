"""Plain books: what a single choice reads, as records of parts by their names."""

from manyleaf.errors import NoPart

TOP = ""


class Plain:
    def __init__(self):
        self.records = {}

    def has(self, name):
        return name in self.records

    def state(self, name):
        if name not in self.records:
            raise NoPart(name)
        return self.records[name]

    def state_or_none(self, name):
        return self.records.get(name)

    def kind_of(self, name):
        return self.state(name)[0]

    def parent_of(self, name):
        return self.state(name)[1]

    def rank_of(self, name):
        return self.state(name)[2]

    def content_of(self, name):
        return self.state(name)[3]

    def names(self):
        return sorted(self.records)

    def under(self, parent):
        self.need_place(parent)
        names = [name for name in self.records if self.parent_of(name) == parent]
        return sorted(names, key=self.place_key)

    def place_key(self, name):
        return (self.rank_of(name), name)

    def need_place(self, name):
        if name != TOP and name not in self.records:
            raise NoPart(name)

    def beneath(self, name):
        self.need_place(name)
        return [below for depth, below in self.walk(name)]

    # Without recursion, as a tree may be deeper than Python's calls.
    def walk(self, name):
        unders = self.all_unders()
        found = []
        waiting = [(1, below) for below in reversed(unders.get(name, []))]
        while waiting != []:
            line = waiting.pop()
            found.append(line)
            waiting.extend([(line[0] + 1, deeper) for deeper in reversed(unders.get(line[1], []))])
        return found

    def all_unders(self):
        unders = {}
        for name in sorted(self.records, key=self.place_key):
            unders.setdefault(self.parent_of(name), []).append(name)
        return unders

    def lines(self):
        return [self.line_of(depth, name) for depth, name in self.walk(TOP)]

    def line_of(self, depth, name):
        return (depth, name, self.kind_of(name), self.rank_of(name), self.content_of(name))

    def lay(self, name, kind, parent, rank, content):
        self.records[name] = (kind, parent, rank, content)

    def drop(self, name):
        self.state(name)
        for below in [name] + self.beneath(name):
            self.records.pop(below)

    def copied(self):
        twin = Plain()
        twin.records = dict(self.records)
        return twin

    def same(self, other):
        return self.records == other.records

    # One and the same value for plain books that are the same, and for no others.
    def value_key(self):
        return tuple([(name, self.records[name]) for name in self.names()])
