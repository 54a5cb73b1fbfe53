"""What several tests share: any objects, what a system shows, and a test case."""

import unittest

from waitnumbers.calls import read_calls
from waitnumbers.system import System

# Any objects in the sense of point [2]. None of them is an integer from 0 to
# 1,000,000, a word or the text of a call.
JUNK = [
    True,
    False,
    None,
    -1,
    -(10 ** 19),
    10 ** 20 - 1,
    "",
    "0",
    "1",
    "True",
    "levels",
    "Level",
    "x" * 400,
    (),
    (0,),
    (1,),
    [],
    [0],
    [[[[[[1]]]]]],
    ("new_source",),
    [None] * 500,
]

NAMES = [
    "new_source", "new_set", "copy", "close", "fork", "end", "arrive", "finish",
    "read", "add", "change", "remove", "wait", "numbers", "same", "units",
]

# One call for each name, that looks well formed whatever the system is.
PLAIN_CALLS = [
    ("new_source", 0), ("new_set", 0), ("copy", 0, 0, None), ("close", 0, 0), ("fork", 0),
    ("end", 0), ("arrive", 0, 0, 1), ("finish", 0, 0), ("read", 0, 0, None),
    ("add", 0, 0, 1, 7, "level"), ("change", 0, 0, 1, "edge"), ("remove", 0, 0, 1),
    ("wait", 0, 0, 1), ("numbers", 0), ("same", 0, 0, 0, 1), ("units", 0, 0),
]


def calls_of(text):
    """The calls of a text in which they are parted by semicolons."""
    return read_calls("\n".join([part.strip() for part in text.split(";") if part.strip()]))


def system_of(text, processes=4, numbers=8):
    """A system in which the calls of such a text were done, each without an error."""
    system = System(processes=processes, numbers=numbers)
    for call in calls_of(text):
        answer = system.answer(call)
        assert not isinstance(answer, str), (call, answer)
    return system


def shown(system):
    """All that the looks of a system show, as text, so that 1 and True differ."""
    tables = []
    for process in system.alive():
        for number, kind in system.numbers(process):
            kept = system.units(process, number) if kind == "source" else system.row_of(process, number)
            tables.append((process, number, kind, system.name(process, number), kept))
    return repr((system.limits, system.alive(), tables, system.registrations()))


class Case(unittest.TestCase):
    """A test case that knows what an error must tell and must leave alone."""

    def refused(self, error, told, action, *args, **more):
        """The call raises just this error, with just these attributes."""
        with self.assertRaises(error) as caught:
            action(*args, **more)
        self.assertIs(type(caught.exception), error)
        self.assertEqual(repr(vars(caught.exception)), repr(told))

    def unchanged(self, system, error, told, action, *args, **more):
        """The call raises an error, and the system is as it was."""
        before = shown(system)
        twin = system.twin()
        self.refused(error, told, action, *args, **more)
        self.assertEqual(shown(system), before)
        self.assertTrue(system == twin)

    def exactly(self, got, wanted):
        """Equal, where True is not 1 and a list is not a tuple."""
        self.assertEqual(repr(got), repr(wanted))
