"""Rows of calls that, between them, tell everything of a system that any row can tell.

They are made from what a system shows, one kind of row for each thing that point
[17] says can be told. Two systems are told apart if some such row of either one
has different answers in them.
"""

from waitnumbers.calls import answers

MANY = 1000000
FRESH = 999999


class Row:
    """A row of calls under way, done in a twin of the system for which it is made."""

    def __init__(self, system):
        self.system = system.twin()
        self.calls = []

    def do(self, *call):
        self.calls.append(call)
        return self.system.answer(call)

    def numbers(self, process, number):
        """All numbers of the process that mean the same as this one."""
        return [
            other for other, kind in self.system.numbers(process)
            if self.system.same(process, number, process, other)
        ]

    def put(self, process, set_number, number, onto):
        """Let a number mean a source, the set another one; return the set's number."""
        if onto in self.numbers(process, number):
            return set_number
        others = [other for other in self.numbers(process, set_number) if other != onto]
        if not others:
            free = [k for k in range(self.system.limits[1]) if k not in (onto, number)]
            self.do("copy", process, set_number, free[-1])
            others = [free[-1]]
        self.do("copy", process, number, onto)
        return others[0]

    def all_cells(self):
        return [(p, n, kind) for p in self.system.alive() for n, kind in self.system.numbers(p)]

    def sources(self):
        return [(p, n) for p, n, kind in self.all_cells() if kind == "source" and self.system.name(p, n) == (p, n)]

    def sets(self):
        return [(p, n) for p, n, kind in self.all_cells() if kind == "set" and self.system.name(p, n) == (p, n)]

    def read_all(self):
        for p, n in self.sources():
            self.do("read", p, n, None)

    def wait_all(self):
        for p, n in self.sets():
            self.do("wait", p, n, MANY)

    def arrive_all(self):
        for p, n in self.sources():
            self.do("arrive", p, n, 1)


def looks(system):
    row = Row(system)
    for p in range(7):
        row.do("numbers", p)
    for p, n, kind in row.all_cells():
        row.do("units", p, n)
        for q, m, kind in row.all_cells():
            row.do("same", p, n, q, m)
    return row.calls


def limits(system):
    row = Row(system)
    for p in system.alive():
        for k in range(9):
            row.do("new_source", p)
    for p in system.alive()[:1]:
        for k in range(7):
            row.do("fork", p)
    return row.calls


def waits(system):
    """What is pending, the words, what is armed, the orders of adding."""
    row = Row(system)
    row.wait_all()
    row.wait_all()
    row.arrive_all()
    row.wait_all()
    row.wait_all()
    row.read_all()
    row.wait_all()
    row.arrive_all()
    row.wait_all()
    row.wait_all()
    return row.calls


def places(system):
    """The queues, if all that is pending becomes ready."""
    row = Row(system)
    row.arrive_all()
    row.wait_all()
    return row.calls


def orders(system):
    """The orders of adding of what is armed."""
    row = Row(system)
    row.read_all()
    row.wait_all()
    row.arrive_all()
    row.wait_all()
    return row.calls


def queues(system):
    """The whole queue, with the places of those whose source is not ready."""
    row = Row(system)
    for p, n in row.sets():
        others = [k for k, kind in system.numbers(p) if k != n]
        if len(others) == system.limits[1] - 1:
            # No thing may end that others do not hold, if that can be helped.
            others.sort(key=lambda k: len(cells_of(system, p, k)))
            row.do("close", p, others[-1])
        fresh = row.do("new_source", p)
        row.do("add", p, n, fresh, FRESH, "level")
        row.do("arrive", p, fresh, 1)
    row.arrive_all()
    row.wait_all()
    return row.calls


def queue_beside(system, kept):
    """The queue of a set for one registration: its source is not closed."""
    holder, label, number, source, word, armed = kept
    row = Row(system)
    p, w = holder
    if len(system.numbers(p)) == system.limits[1]:
        others = [k for k in range(system.limits[1]) if k != w and not system.same(p, k, *source)]
        others += [k for k in range(system.limits[1]) if k != w]
        row.do("close", p, others[0])
    fresh = row.do("new_source", p)
    row.do("add", p, w, fresh, FRESH, "level")
    row.do("arrive", p, fresh, 1)
    row.arrive_all()
    row.do("wait", p, w, MANY)
    return row.calls


def cells_of(system, process, number):
    return [
        (p, n) for p in system.alive() for n, kind in system.numbers(p)
        if system.same(process, number, p, n)
    ]


def holders(system, holder, source):
    """Each process with a number of the set and one of the source, with these numbers."""
    found = []
    for p in system.alive():
        w = [n for n, kind in system.numbers(p) if system.same(p, n, *holder)]
        s = [n for n, kind in system.numbers(p) if system.same(p, n, *source)]
        if w and s:
            found.append((p, w[0], s[0]))
    return found


def labels_taken(row, process, set_number, labels, which=0):
    """Tell which labels are taken in a set, by a source that was made for this."""
    others = [n for n, kind in row.system.numbers(process) if n != set_number]
    if len(others) == row.system.limits[1] - 1:
        row.do("close", process, others[which])
    fresh = row.do("new_source", process)
    for label in labels:
        if row.do("add", process, set_number, fresh, label, "level") is None:
            row.do("remove", process, set_number, fresh)


def label_alone(system, holder, labels):
    """A full table needs one number closed; whatever it is, the others are told by another row."""
    rows = []
    for which in range(2):
        row = Row(system)
        labels_taken(row, *holder, labels, which)
        rows.append(row.calls)
    return rows


def label_source(system, kept, labels):
    holder, label, number, source, word, armed = kept
    row = Row(system)
    for p, n in cells_of(system, *source):
        row.do("close", p, n)
    labels_taken(row, *holder, labels)
    return row.calls


def label_number(system, kept, labels):
    holder, label, number, source, word, armed = kept
    rows = []
    for p, w, s in holders(system, holder, source):
        row = Row(system)
        w = row.put(p, w, s, number)
        row.do("remove", p, w, number)
        labels_taken(row, p, w, labels)
        rows.append(row.calls)
    return rows


def order_of_two(system, first, second):
    """Arm both, let both leave the queue, and look in which order they come back."""
    holder, label, number, source, word, armed = first
    rows = []
    for p, w, s in holders(system, holder, source):
        row = Row(system)
        for onto in (number, second[2]):
            w = row.put(p, w, s, onto)
            s = onto
            row.do("change", p, w, onto, "edge")
        row.do("read", p, s, None)
        row.do("wait", p, w, MANY)
        row.do("arrive", p, s, 1)
        row.do("wait", p, w, MANY)
        rows.append(row.calls)
    return rows


def rows_for(system):
    """All these rows for a system."""
    if not system.alive():
        return [[("numbers", 0)]]
    kept = system.registrations()
    labels = sorted({registration[1] for registration in kept} | set(range(8)))
    rows = [looks(system), limits(system), waits(system), places(system), orders(system)]
    rows.append(queues(system))
    for p, n in Row(system).sets():
        rows.extend(label_alone(system, (p, n), labels))
    for one in kept:
        rows.append(queue_beside(system, one))
        rows.append(label_source(system, one, labels))
        rows.extend(label_number(system, one, labels))
        for other in kept:
            if (one[0], one[3]) == (other[0], other[3]) and one[1] < other[1]:
                rows.extend(order_of_two(system, one, other))
    return rows


def told_apart(one, other):
    """A row of calls that has different answers in two systems, or None if none is found."""
    for row in rows_for(one) + rows_for(other):
        if repr(answers(one.twin(), row)) != repr(answers(other.twin(), row)):
            return row
    return None
