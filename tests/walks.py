"""A second crew, over the second system, and walks through all its schedules.

Walk merges no states, so it is for small crews only; Merged does, by what is shown.
"""

import copy
import itertools

import model


class Walker:
    """What a worker has, as plain attributes."""

    def __init__(self, process, steps):
        self.process = process
        self.steps = list(steps)
        self.number = None
        self.source = None
        self.made = None


class Band:
    """A crew; a copy of it is deep, so things stay themselves in it."""

    def __init__(self, system, workers):
        self.box = system
        self.workers = [Walker(process, steps) for process, steps in workers]

    def copied(self):
        return copy.deepcopy(self)

    def may(self, index):
        worker = self.workers[index]
        if not worker.steps:
            return False
        if worker.steps[0][0] != "take":
            return True
        answer = copy.deepcopy(self.box).answer(("wait", worker.process, worker.steps[0][1], 1))
        return type(answer) is list and answer != []

    def strays(self, index):
        """Whether the next step of a worker is a stray."""
        worker = self.workers[index]
        if worker.steps[0][0] not in ("read", "close", "remove") or worker.number is None:
            return False
        meant = self.box.cells.get((worker.process, worker.number))
        return meant is not None and meant is not worker.source

    def do(self, index):
        worker = self.workers[index]
        name, *parts = worker.steps.pop(0)
        process = worker.process
        if name == "take":
            [report] = self.box.answer(("wait", process, parts[0], 1))
            rows = self.box.thing(process, parts[0]).rows
            [row] = [row for row in rows if row["label"] == report[0]]
            worker.number, worker.source = row["number"], row["source"]
        elif name == "make":
            answer = self.box.answer(("new_source", process))
            if not isinstance(answer, str):
                worker.made = answer
        elif name == "call":
            self.box.answer(parts[0])
        elif name == "watch":
            if worker.made is not None:
                self.box.answer(("add", process, parts[0], worker.made, *parts[1:]))
        elif worker.number is not None:
            if name == "read":
                self.box.answer(("read", process, worker.number, parts[0]))
            elif name == "close":
                self.box.answer(("close", process, worker.number))
            else:
                self.box.answer(("remove", process, parts[0], worker.number))

    def shown(self):
        """What equal crews of the same workers have in common, as text."""
        kept = []
        for worker in self.workers:
            there = worker.source is not None and self.box.exists(worker.source)
            name = self.box.name(worker.source) if there else None
            kept.append((len(worker.steps), worker.number, name, worker.made))
        return repr((self.box.shown(), kept))


class Walk:
    """All schedules: how many are complete, how many of these have a stray, all strays, all states."""

    def __init__(self, band):
        self.complete = 0
        self.strayed = 0
        self.strays = []
        self.states = set()
        self.go(band, (), False)
        self.least = min(self.strays, key=lambda schedule: (len(schedule), schedule), default=None)

    def go(self, band, schedule, strayed):
        self.states.add(band.shown())
        ways = [index for index in range(len(band.workers)) if band.may(index)]
        if not ways:
            self.complete += 1
            self.strayed += strayed
        for index in ways:
            stray = band.strays(index)
            if stray:
                self.strays.append((*schedule, index))
            behind = band.copied()
            behind.do(index)
            self.go(behind, (*schedule, index), strayed or stray)


class Merged:
    """All states, level by level, each with its least schedule, and with how many lead to it."""

    def __init__(self, band):
        self.many = self.complete = self.strayed = 0
        self.least = None
        level = {band.shown(): [band, (), 1, 1]}
        while level:
            self.many += len(level)
            behind = {}
            for shown in sorted(level, key=lambda shown: level[shown][1]):
                self.go_on(behind, *level[shown])
            level = behind

    def go_on(self, behind, band, schedule, many, clean):
        ways = [index for index in range(len(band.workers)) if band.may(index)]
        if not ways:
            self.complete += many
            self.strayed += many - clean
        for index in ways:
            stray = band.strays(index)
            if stray and self.least is None:
                self.least = (*schedule, index)
            other = band.copied()
            other.do(index)
            state = behind.setdefault(other.shown(), [other, (*schedule, index), 0, 0])
            state[2] += many
            state[3] += 0 if stray else clean


def band_of(calls, workers, processes, numbers):
    """A second crew in a second system in which these calls were done."""
    box = model.Model(processes, numbers)
    for call in calls:
        box.answer(call)
    return Band(box, workers)


def with_removals(workers, places):
    """The workers with removals at these places."""
    changed = []
    for index, (process, steps) in enumerate(workers):
        row = []
        last = None
        for at, step in enumerate(steps):
            if step[0] == "take":
                last = step[1]
            if (index, at) in places:
                row.append(("remove", last))
            row.append(step)
        changed.append((process, tuple(row)))
    return changed


def places_of(workers):
    """All removal places, ascending."""
    return [
        (index, at)
        for index, (process, steps) in enumerate(workers)
        for at, step in enumerate(steps)
        if step == ("close",) and any(other[0] == "take" for other in steps[:at])
    ]


def fewest(calls, workers, processes, numbers, most=1000):
    """The fewest removals, by a walk for each list of places, each through at most so many states."""
    places = places_of(workers)
    for many in range(len(places) + 1):
        for chosen in itertools.combinations(places, many):
            walk = Merged(band_of(calls, with_removals(workers, chosen), processes, numbers))
            assert walk.many <= most
            if walk.least is None:
                return list(chosen)
    return None
