"""A second system, written from the document in another way, to compare with.

Things are objects here, found by `is`; registrations are dicts in plain lists.
"""

COUNTS = range(1, 1000001)
LABELS = range(0, 1000000)
WORDS = ["level", "edge", "once"]


class Fault(Exception):
    """An error that a call raises; told is the name of its class."""

    def __init__(self, told):
        Exception.__init__(self, told)
        self.told = told


class Thing:
    def __init__(self, kind):
        self.kind = kind
        self.units = 0
        self.finished = False
        self.rows = []
        self.queue = []

    def ready(self):
        return self.units > 0 or self.finished


def whole(x, among):
    return type(x) is int and x in among


class Model:
    def __init__(self, processes, numbers):
        self.processes = processes
        self.size = numbers
        self.cells = {(0, number): None for number in range(numbers)}
        self.living = [0]

    def answer(self, call):
        try:
            return getattr(self, "do_" + call[0])(*call[1:])
        except Fault as fault:
            return fault.told

    def process(self, process):
        if not (type(process) is int and process in self.living):
            raise Fault("NoProcess")

    def thing(self, process, number):
        self.process(process)
        if not whole(number, range(self.size)) or self.cells[process, number] is None:
            raise Fault("NotOpen")
        return self.cells[process, number]

    def source(self, process, number):
        thing = self.thing(process, number)
        if thing.kind != "source":
            raise Fault("NotASource")
        return thing

    def waiting(self, process, number):
        thing = self.thing(process, number)
        if thing.kind != "set":
            raise Fault("NotASet")
        return thing

    def lowest(self, process):
        free = [n for n in range(self.size) if self.cells[process, n] is None]
        if not free:
            raise Fault("Full")
        return min(free)

    def all_sets(self):
        found = []
        for cell in sorted(self.cells):
            thing = self.cells[cell]
            if thing is not None and thing.kind == "set" and not any(thing is other for other in found):
                found.append(thing)
        return found

    def sweep(self):
        """End every registration whose source is meant by no number any more."""
        for waiting in self.all_sets():
            waiting.rows = [row for row in waiting.rows if self.exists(row["source"])]
            waiting.queue = [row for row in waiting.queue if self.exists(row["source"])]

    def exists(self, thing):
        return any(other is thing for other in self.cells.values())

    def pend(self, waiting, row):
        if not any(other is row for other in waiting.queue):
            waiting.queue.append(row)

    def happen(self, source):
        for waiting in self.all_sets():
            for row in waiting.rows:
                if row["source"] is source and row["armed"]:
                    self.pend(waiting, row)

    def do_new_source(self, process):
        self.process(process)
        number = self.lowest(process)
        self.cells[process, number] = Thing("source")
        return number

    def do_new_set(self, process):
        self.process(process)
        number = self.lowest(process)
        self.cells[process, number] = Thing("set")
        return number

    def do_copy(self, process, number, to):
        thing = self.thing(process, number)
        if to is not None and not whole(to, range(self.size)):
            raise Fault("NoNumber")
        if to is None:
            to = self.lowest(process)
        self.cells[process, to] = thing
        self.sweep()
        return to

    def do_close(self, process, number):
        self.thing(process, number)
        self.cells[process, number] = None
        self.sweep()

    def do_fork(self, process):
        self.process(process)
        free = [p for p in range(self.processes) if p not in self.living]
        if not free:
            raise Fault("NoRoom")
        self.living.append(free[0])
        for number in range(self.size):
            self.cells[free[0], number] = self.cells[process, number]
        return free[0]

    def do_end(self, process):
        self.process(process)
        self.living.remove(process)
        self.cells = {cell: thing for cell, thing in self.cells.items() if cell[0] != process}
        self.sweep()

    def do_arrive(self, process, number, many):
        source = self.source(process, number)
        if not whole(many, COUNTS):
            raise Fault("BadCount")
        if source.finished:
            raise Fault("Finished")
        source.units += many
        self.happen(source)

    def do_finish(self, process, number):
        source = self.source(process, number)
        if source.finished:
            raise Fault("Finished")
        source.finished = True
        self.happen(source)

    def do_read(self, process, number, many):
        source = self.source(process, number)
        if many is not None and not whole(many, COUNTS):
            raise Fault("BadCount")
        left = 0 if many is None else max(0, source.units - many)
        took = source.units - left
        source.units = left
        return took

    def both(self, process, set_number, number):
        return self.waiting(process, set_number), self.source(process, number)

    def row(self, waiting, number, source):
        for row in waiting.rows:
            if row["number"] == number and row["source"] is source:
                return row
        return None

    def do_add(self, process, set_number, number, label, word):
        waiting, source = self.both(process, set_number, number)
        if not whole(label, LABELS):
            raise Fault("BadLabel")
        if word not in WORDS:
            raise Fault("BadWord")
        if self.row(waiting, number, source) is not None:
            raise Fault("Registered")
        if [row for row in waiting.rows if row["label"] == label]:
            raise Fault("Taken")
        row = {"number": number, "source": source, "label": label, "word": word, "armed": True}
        waiting.rows.append(row)
        if source.ready():
            self.pend(waiting, row)

    def do_change(self, process, set_number, number, word):
        waiting, source = self.both(process, set_number, number)
        if word not in WORDS:
            raise Fault("BadWord")
        row = self.row(waiting, number, source)
        if row is None:
            raise Fault("NotRegistered")
        row["word"] = word
        row["armed"] = True
        if source.ready():
            self.pend(waiting, row)

    def do_remove(self, process, set_number, number):
        waiting, source = self.both(process, set_number, number)
        row = self.row(waiting, number, source)
        if row is None:
            raise Fault("NotRegistered")
        waiting.rows = [other for other in waiting.rows if other is not row]
        waiting.queue = [other for other in waiting.queue if other is not row]

    def do_wait(self, process, set_number, most):
        waiting = self.waiting(process, set_number)
        if not whole(most, COUNTS):
            raise Fault("BadCount")
        reports = []
        left = len(waiting.queue)
        while left > 0 and len(reports) < most:
            left -= 1
            row = waiting.queue.pop(0)
            if not row["source"].ready():
                continue
            reports.append((row["label"], row["source"].units, row["source"].finished))
            if row["word"] == "level":
                waiting.queue.append(row)
            if row["word"] == "once":
                row["armed"] = False
        return reports

    def do_numbers(self, process):
        self.process(process)
        return [(n, self.cells[process, n].kind) for n in range(self.size) if self.cells[process, n] is not None]

    def do_same(self, process, number, other, other_number):
        return self.thing(process, number) is self.thing(other, other_number)

    def do_units(self, process, number):
        source = self.source(process, number)
        return source.units, source.finished

    def name(self, thing):
        return min(cell for cell, other in self.cells.items() if other is thing)

    def registrations(self):
        return [
            (self.name(waiting), row["label"], row["number"], self.name(row["source"]), row["word"], row["armed"])
            for waiting in self.all_sets()
            for row in waiting.rows
        ]

    def row_of(self, process, set_number):
        return [row["label"] for row in self.waiting(process, set_number).queue]

    def shown(self):
        """As support.shown shows a system."""
        tables = []
        for process in sorted(self.living):
            for number, kind in self.do_numbers(process):
                if kind == "source":
                    kept = self.do_units(process, number)
                else:
                    kept = self.row_of(process, number)
                tables.append((process, number, kind, self.name(self.cells[process, number]), kept))
        return repr(((self.processes, self.size), sorted(self.living), tables, self.registrations()))
