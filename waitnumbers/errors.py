"""The errors that the package raises."""


class NoProcess(LookupError):
    """A process number that is not alive."""

    def __init__(self, process):
        LookupError.__init__(self, f"no alive process {process!r}")
        self.process = process


class NotOpen(LookupError):
    """A number that means nothing in this process."""

    def __init__(self, number):
        LookupError.__init__(self, f"number {number!r} is not open")
        self.number = number


class NoNumber(LookupError):
    """An object that no table has as a number."""

    def __init__(self, number):
        LookupError.__init__(self, f"{number!r} is no number of a table")
        self.number = number


class NotRegistered(LookupError):
    """A key that no registration in the set has."""

    def __init__(self, number):
        LookupError.__init__(self, f"no registration has number {number!r} and its source")
        self.number = number


class NoRegistration(LookupError):
    """A set's name and a label that name no registration."""

    def __init__(self, set_name, label):
        LookupError.__init__(self, f"no registration {label!r} in set {set_name!r}")
        self.set_name = set_name
        self.label = label


class NotASource(TypeError):
    """A number that means a set."""

    def __init__(self, number):
        TypeError.__init__(self, f"number {number!r} means no source")
        self.number = number


class NotASet(TypeError):
    """A number that means a source."""

    def __init__(self, number):
        TypeError.__init__(self, f"number {number!r} means no set")
        self.number = number


class BadCall(TypeError):
    """An object that is no call."""

    def __init__(self, call):
        TypeError.__init__(self, f"{call!r} is no call")
        self.call = call


class BadStep(TypeError):
    """An object that is no step of a worker."""

    def __init__(self, worker, step):
        TypeError.__init__(self, f"step {step!r} of worker {worker!r} is none")
        self.worker = worker
        self.step = step


class BadCount(ValueError):
    """An object that is no count."""

    def __init__(self, count):
        ValueError.__init__(self, f"{count!r} is no count")
        self.count = count


class BadLabel(ValueError):
    """An object that is no label."""

    def __init__(self, label):
        ValueError.__init__(self, f"{label!r} is no label")
        self.label = label


class BadWord(ValueError):
    """An object that is no word."""

    def __init__(self, word):
        ValueError.__init__(self, f"{word!r} is no word")
        self.word = word


class BadLimit(ValueError):
    """An object that is no limit of a system."""

    def __init__(self, limit):
        ValueError.__init__(self, f"{limit!r} is no limit")
        self.limit = limit


class BadPlace(ValueError):
    """An object that is no removal place."""

    def __init__(self, place):
        ValueError.__init__(self, f"{place!r} is no removal place")
        self.place = place


class BadText(ValueError):
    """An object that is no text of calls; line tells where."""

    def __init__(self, line):
        ValueError.__init__(self, f"line {line!r} is no text of a call")
        self.line = line


class BadCommand(ValueError):
    """An object that is no command of a console."""

    def __init__(self, command):
        ValueError.__init__(self, f"{command!r} is no command")
        self.command = command


class Full(OverflowError):
    """A process whose numbers are all open."""

    def __init__(self, process):
        OverflowError.__init__(self, f"process {process!r} has no free number")
        self.process = process


class NoRoom(OverflowError):
    """A system whose process numbers are all alive."""

    def __init__(self):
        OverflowError.__init__(self, "no process number is free")


class TooMany(OverflowError):
    """More of something than the limit tells."""

    def __init__(self, limit):
        OverflowError.__init__(self, f"more than {limit!r}")
        self.limit = limit


class Finished(RuntimeError):
    """A source that is finished already."""

    def __init__(self, number):
        RuntimeError.__init__(self, f"the source of number {number!r} is finished")
        self.number = number


class Registered(RuntimeError):
    """A key that a registration in the set has already."""

    def __init__(self, number):
        RuntimeError.__init__(self, f"number {number!r} and its source are registered")
        self.number = number


class Taken(RuntimeError):
    """A label that a registration in the set has already."""

    def __init__(self, label):
        RuntimeError.__init__(self, f"label {label!r} is taken")
        self.label = label


class NotPossible(RuntimeError):
    """A worker whose next step is not possible now."""

    def __init__(self, index):
        RuntimeError.__init__(self, f"the next step of worker {index!r} is not possible")
        self.index = index
