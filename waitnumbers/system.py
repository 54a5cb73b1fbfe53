"""Systems: processes, their tables of numbers, sources and waiting sets."""

from waitnumbers.actions import answered
from waitnumbers.checks import check_calls
from waitnumbers.checks import is_between
from waitnumbers.checks import is_count
from waitnumbers.checks import is_integer
from waitnumbers.checks import is_label
from waitnumbers.checks import is_word
from waitnumbers.errors import BadCount
from waitnumbers.errors import BadLabel
from waitnumbers.errors import BadLimit
from waitnumbers.errors import BadWord
from waitnumbers.errors import Finished
from waitnumbers.errors import Full
from waitnumbers.errors import NoNumber
from waitnumbers.errors import NoProcess
from waitnumbers.errors import NoRoom
from waitnumbers.errors import NotASet
from waitnumbers.errors import NotASource
from waitnumbers.errors import NotOpen
from waitnumbers.errors import NotRegistered
from waitnumbers.errors import Registered
from waitnumbers.errors import Taken
from waitnumbers.waiting import Registration
from waitnumbers.waiting import WaitingSet

LEAST_PROCESSES = 2
LEAST_NUMBERS = 3


class System:
    """Processes that hold sources and waiting sets by numbers.

    A thing is kept as an integer that is never used again, so that a twin and
    what follows it can tell a thing itself from a new one with the same name.
    """

    MOST_PROCESSES = 6
    MOST_NUMBERS = 8

    def __init__(self, *, processes=4, numbers=8):
        if not is_between(processes, LEAST_PROCESSES, self.MOST_PROCESSES):
            raise BadLimit(processes)
        if not is_between(numbers, LEAST_NUMBERS, self.MOST_NUMBERS):
            raise BadLimit(numbers)
        self.process_limit = processes
        self.number_limit = numbers
        self.tables = {0: [None] * numbers}
        self.sources = {}
        self.sets = {}
        self.next_thing = 0

    @classmethod
    def played(cls, calls, *, processes=4, numbers=8):
        """A new system in which a row of calls was done, whatever their answers."""
        system = cls(processes=processes, numbers=numbers)
        for call in calls:
            system.answer(call)
        return system

    def new_source(self, process):
        """Make a source without units, and return its number."""
        number, thing = self.new_thing(process)
        self.sources[thing] = (0, False)
        return number

    def new_set(self, process):
        """Make a set without registrations, and return its number."""
        number, thing = self.new_thing(process)
        self.sets[thing] = WaitingSet()
        return number

    def copy(self, process, number, to=None):
        """Make another number mean the same thing, and return that number."""
        thing = self.thing_at(process, number)
        if to is not None and not self.is_table_number(to):
            raise NoNumber(to)
        goal = self.free_number(process) if to is None else to
        table = self.tables[process]
        if table[goal] != thing:
            if table[goal] is not None:
                self.free(process, goal)
            table[goal] = thing
        return goal

    def close(self, process, number):
        """Make a number free."""
        self.thing_at(process, number)
        self.free(process, number)

    def fork(self, process):
        """Make the lowest free process number alive with the same table, and return it."""
        table = self.table_of(process)
        other = self.free_process()
        if other is None:
            raise NoRoom()
        self.tables[other] = list(table)
        return other

    def end(self, process):
        """Close all numbers of a process, and make its process number free."""
        table = self.table_of(process)
        for number in range(self.number_limit):
            if table[number] is not None:
                self.free(process, number)
        del self.tables[process]

    def arrive(self, process, number, many=1):
        """Add units to a source."""
        source = self.source_at(process, number)
        if not is_count(many):
            raise BadCount(many)
        unread = self.unread_of_unfinished(source, number)
        self.sources[source] = (unread + many, False)
        self.notify(source)

    def finish(self, process, number):
        """Finish a source."""
        source = self.source_at(process, number)
        unread = self.unread_of_unfinished(source, number)
        self.sources[source] = (unread, True)
        self.notify(source)

    def read(self, process, number, many=None):
        """Take unread units away, all or up to so many, and return how many."""
        source = self.source_at(process, number)
        if many is not None and not is_count(many):
            raise BadCount(many)
        unread, finished = self.sources[source]
        taken = unread if many is None else min(many, unread)
        self.sources[source] = (unread - taken, finished)
        return taken

    def add(self, process, set_number, number, label, *, word="level"):
        """Add an armed registration of a number and its source to a set."""
        waiting = self.set_at(process, set_number)
        source = self.source_at(process, number)
        if not is_label(label):
            raise BadLabel(label)
        if not is_word(word):
            raise BadWord(word)
        if waiting.label_of(number, source) is not None:
            raise Registered(number)
        if label in waiting.entries:
            raise Taken(label)
        waiting.put(label, Registration(number, source, word, True), self.is_ready(source))

    def change(self, process, set_number, number, *, word):
        """Give a registration a word, and arm it."""
        waiting = self.set_at(process, set_number)
        source = self.source_at(process, number)
        if not is_word(word):
            raise BadWord(word)
        label = waiting.label_of(number, source)
        if label is None:
            raise NotRegistered(number)
        waiting.put(label, Registration(number, source, word, True), self.is_ready(source))

    def remove(self, process, set_number, number):
        """End the registration of a number and its source in a set."""
        waiting = self.set_at(process, set_number)
        source = self.source_at(process, number)
        label = waiting.label_of(number, source)
        if label is None:
            raise NotRegistered(number)
        waiting.drop(label)

    def wait(self, process, set_number, most=1):
        """Return a list of up to so many reports from the queue of a set."""
        waiting = self.set_at(process, set_number)
        if not is_count(most):
            raise BadCount(most)
        return waiting.take_reports(most, self.sources)

    def numbers(self, process):
        """The open numbers of a process, each with the kind of its thing."""
        table = self.table_of(process)
        return [
            (number, "source" if thing in self.sources else "set")
            for number, thing in enumerate(table)
            if thing is not None
        ]

    def same(self, process, number, other, other_number):
        """Whether two numbers mean the same thing."""
        return self.thing_at(process, number) == self.thing_at(other, other_number)

    def units(self, process, number):
        """The unread units of a source, and whether it is finished."""
        return self.sources[self.source_at(process, number)]

    @property
    def limits(self):
        """How many process numbers there are, and how many numbers in each process."""
        return (self.process_limit, self.number_limit)

    def alive(self):
        """The alive process numbers."""
        return sorted(self.tables)

    def name(self, process, number):
        """The name of the thing that a number means."""
        return self.name_of(self.thing_at(process, number))

    def registrations(self):
        """All registrations, by their sets, in each set in the order of adding."""
        names = {thing: self.name_of(thing) for thing in self.things()}
        return [
            (names[thing], label, kept.number, names[kept.source], kept.word, kept.armed)
            for thing in self.things()
            if thing in self.sets
            for label, kept in self.sets[thing].entries.items()
        ]

    def row_of(self, process, set_number):
        """The labels in the queue of a set, the front first."""
        return list(self.set_at(process, set_number).queue)

    def twin(self):
        """An equal system that goes on by itself."""
        other = System(processes=self.process_limit, numbers=self.number_limit)
        other.tables = {process: list(table) for process, table in self.tables.items()}
        other.sources = dict(self.sources)
        other.sets = {thing: waiting.copied() for thing, waiting in self.sets.items()}
        other.next_thing = self.next_thing
        return other

    def answer(self, call):
        """Do a call, and return its answer."""
        check_calls([call])
        return answered(self, call)

    def __eq__(self, other):
        return isinstance(other, System) and self.state() == other.state()

    def __len__(self):
        return len(self.tables)

    def __bool__(self):
        return bool(self.tables)

    def __contains__(self, x):
        return is_integer(x) and x in self.tables

    def __repr__(self):
        return f"System({self.process_limit}, {self.number_limit}, {len(self.tables)} alive)"

    def table_of(self, process):
        """The table of an alive process."""
        if process not in self:
            raise NoProcess(process)
        return self.tables[process]

    def is_table_number(self, number):
        """Whether any object is a number that a table has."""
        return is_between(number, 0, self.number_limit - 1)

    def thing_at(self, process, number):
        """The thing that an open number means."""
        table = self.table_of(process)
        if not self.is_table_number(number) or table[number] is None:
            raise NotOpen(number)
        return table[number]

    def source_at(self, process, number):
        """The source that a number means."""
        thing = self.thing_at(process, number)
        if thing not in self.sources:
            raise NotASource(number)
        return thing

    def set_at(self, process, set_number):
        """The registrations and the queue of the set that a number means."""
        thing = self.thing_at(process, set_number)
        if thing not in self.sets:
            raise NotASet(set_number)
        return self.sets[thing]

    def free_number(self, process):
        """The lowest free number of a process."""
        for number, thing in enumerate(self.table_of(process)):
            if thing is None:
                return number
        raise Full(process)

    def free_process(self):
        """The lowest free process number, or None."""
        for process in range(self.process_limit):
            if process not in self.tables:
                return process
        return None

    def new_thing(self, process):
        """Let the lowest free number mean a new thing, and return both."""
        number = self.free_number(process)
        thing = self.next_thing
        self.next_thing += 1
        self.tables[process][number] = thing
        return (number, thing)

    def free(self, process, number):
        """Make an open number free; its thing ends with its last number."""
        thing = self.tables[process][number]
        self.tables[process][number] = None
        if not any([thing in table for table in self.tables.values()]):
            self.end_thing(thing)

    def end_thing(self, thing):
        """End a thing, all registrations of it, and all in it."""
        if thing in self.sets:
            del self.sets[thing]
            return
        del self.sources[thing]
        for waiting in self.sets.values():
            waiting.drop_source(thing)

    def unread_of_unfinished(self, source, number):
        """The unread units of a source that must not be finished."""
        unread, finished = self.sources[source]
        if finished:
            raise Finished(number)
        return unread

    def is_ready(self, source):
        """Whether units of a source are unread, or it is finished."""
        unread, finished = self.sources[source]
        return unread > 0 or finished

    def is_finished(self, source):
        """Whether a source is finished."""
        unread, finished = self.sources[source]
        return finished

    def notify(self, source):
        """Let all sets know that units arrived, or that a source finished."""
        for waiting in self.sets.values():
            waiting.notice(source)

    def things(self):
        """The things that exist, by their names."""
        tables = [self.tables[process] for process in sorted(self.tables)]
        # A key keeps the place of its first time, which is the thing's name.
        return list({thing: True for table in tables for thing in table if thing is not None})

    def numbers_of(self, thing):
        """The numbers that mean a thing, each with its process."""
        return [
            (process, number)
            for process in sorted(self.tables)
            for number, meant in enumerate(self.tables[process])
            if meant == thing
        ]

    def name_of(self, thing):
        """The least process and number that mean a thing."""
        return self.numbers_of(thing)[0]

    def places(self):
        """The things that exist, by their names, and the place of each among them."""
        return {thing: at for at, thing in enumerate(self.things())}

    def placed_tables(self, places):
        """The tables of all alive processes, things by their places."""
        return tuple([
            (process, tuple([places.get(meant, -1) for meant in self.tables[process]]))
            for process in sorted(self.tables)
        ])

    def state(self):
        """All that equal systems have in common."""
        return self.state_by(self.places())

    def state_by(self, places):
        """All that equal systems have in common, things by their places."""
        kept = [
            self.sources[thing] if thing in self.sources else self.sets[thing].contents(places)
            for thing in places
        ]
        return (self.limits, self.placed_tables(places), tuple(kept))
