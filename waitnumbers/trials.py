"""Trials: rows of calls that are made step by step, from what each call has left."""

from waitnumbers.checks import MOST_COUNT


class Trial:
    """A row of calls under way, done in a twin of the system that it is made for."""

    def __init__(self, system):
        self.held = system.twin()
        self.calls = []

    def do(self, *call):
        """Do a call behind those before it, and return its answer."""
        self.calls.append(call)
        return self.held.answer(call)

    def give_room(self, process, set_number, source):
        """Free a number if none is, so that neither this set's number is closed nor the source ends."""
        table = self.held.tables[process]
        if None in table:
            return
        others = [number for number in range(len(table)) if number != set_number]
        apart = [number for number in others if table[number] != source]
        # If all others mean the source, they are several, since a table has three numbers at least.
        self.do("close", process, [*apart, *others][0])

    def add_fresh(self, process, set_number, label):
        """Register a source that is made for this, and return its number."""
        fresh = self.do("new_source", process)
        self.do("add", process, set_number, fresh, label, "level")
        return fresh

    def put(self, process, holder, source, onto):
        """Let a number mean a source, if need be another one the set; return the set's number."""
        table = self.held.tables[process]
        if table[onto] == holder and table.count(holder) == 1:
            kept = (onto, table.index(source))
            third = [number for number in range(len(table)) if number not in kept][0]
            self.do("copy", process, onto, third)
        if table[onto] != source:
            self.do("copy", process, table.index(source), onto)
        return table.index(holder)

    def arrive_at(self, source):
        """Let a unit arrive; behind it the source is ready."""
        process, number = self.held.name_of(source)
        self.do("arrive", process, number, 1)

    def read_all(self, source):
        """Read all units of a source; behind it the source is not ready, but if it is finished."""
        process, number = self.held.name_of(source)
        self.do("read", process, number, None)

    def wait_for_all(self, holder):
        """Take all the reports that a set has."""
        process, number = self.held.name_of(holder)
        self.do("wait", process, number, MOST_COUNT)
