"""Systems to try things with: all small ones with a registration, and drawn ones."""

import random

import shortest
import support
from test_model import Chooser
from waitnumbers.system import System

# A set, a source, and a registration with the label 7 and each number there is.
STARTS = [
    "new_set 0; new_source 0; copy 0 0 2; copy 0 1 0; close 0 1; add 0 2 0 7 edge",
    "new_set 0; new_source 0; add 0 0 1 7 edge",
    "new_set 0; new_source 0; copy 0 1 2; close 0 1; add 0 0 2 7 edge",
]


def table_calls(system, forks):
    """All calls that could change which things the numbers mean, with forks or without."""
    for process in system.alive():
        for name in ("new_source", "new_set", "fork", "end") if forks else ("new_source", "new_set"):
            yield (name, process)
        for number, kind in system.numbers(process):
            yield ("close", process, number)
            for to in range(system.limits[1]):
                yield ("copy", process, number, to)


def key_of(system):
    kinds = [system.numbers(process) for process in system.alive()]
    return repr((shortest.tables_of(system), kinds, system.registrations()))


def small_systems(start, processes, numbers, most, forks=True):
    """The calls that lead to each of the unlike small systems with the registration.

    They come in the order of the number of calls, at most so many systems.
    """
    calls = tuple(support.calls_of(start))
    system = System.played(calls, processes=processes, numbers=numbers)
    level = [(calls, system)]
    seen = {key_of(system)}
    found = [calls]
    while level and len(found) < most:
        behind = []
        for calls, system in level:
            for call in table_calls(system, forks):
                other = system.twin()
                if isinstance(other.answer(call), str) or not other.registrations():
                    continue
                key = key_of(other)
                if key not in seen:
                    seen.add(key)
                    behind.append(((*calls, call), other))
                    found.append((*calls, call))
        level = behind
    return found[:most]


class Grower(Chooser):
    """Draws rows of calls that succeed, and rows that differ from them a little."""

    def odd(self, usual):
        return usual

    def limits(self):
        return {"processes": self.processes, "numbers": self.numbers}

    def grown(self, start, most):
        """A row of calls without an error that begins with these calls."""
        calls = list(start)
        system = System.played(calls, **self.limits())
        for attempt in range(10 * most):
            if len(calls) >= most:
                break
            call = self.call()
            if call[0] in ("numbers", "same", "units", "end", "close") and self.random.random() < 0.7:
                continue
            other = system.twin()
            if not isinstance(other.answer(call), str) and len(other) > 0:
                system = other
                calls.append(call)
        return calls

    def sealing(self, number):
        """Calls that leave a number open in one process alone, where nothing else is open."""
        others = [other for other in range(self.numbers) if other != number]
        return [
            ("fork", 0),
            *[("close", 1, other) for other in others],
            *[("close", 0, other) for other in range(self.numbers) if other == number],
        ]

    def varied(self, calls):
        """The row with a few small changes."""
        calls = list(calls)
        for change in range(self.random.choice([1, 1, 1, 2, 2, 3])):
            adding = [at for at, call in enumerate(calls) if call[0] in ("add", "change")]
            at = self.random.choice([self.random.randrange(len(calls)), *adding])
            how = self.random.random()
            if how < 0.4:
                to = min(len(calls) - 1, at + self.random.randrange(1, 3))
                calls[at], calls[to] = calls[to], calls[at]
            elif how < 0.8:
                calls[at] = self.reworded(calls[at])
            elif how < 0.9:
                del calls[at]
            else:
                calls.insert(at, self.call())
        return calls

    def reworded(self, call):
        if call[0] in ("add", "change"):
            if call[0] == "add" and self.random.random() < 0.5:
                return (*call[:3], self.number(), *call[4:])
            return (*call[:-1], self.random.choice(["level", "edge", "once"]))
        return (call[0], call[1], *self.arguments(call[0])[1:])


def grower(seed, processes, numbers):
    return Grower(random.Random(seed).randrange(10 ** 9), processes, numbers)
