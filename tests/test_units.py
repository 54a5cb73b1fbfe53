"""Point [7]: units, reads and finishes."""

import unittest

import support
from waitnumbers.errors import BadCount, Finished, NoProcess, NotASource, NotOpen
from waitnumbers.system import System

# 1 and 1,000,000 are counts; these are none.
NO_COUNTS = support.JUNK + [0, 1000001, 10 ** 9, -1000000]


class Units(support.Case):
    def setUp(self):
        self.system = System.played([("new_source", 0), ("new_set", 0)])

    def test_a_new_source_has_none(self):
        self.exactly(self.system.units(0, 0), (0, False))
        self.exactly(self.system.read(0, 0), 0)
        self.exactly(self.system.read(0, 0, 5), 0)

    def test_arrive_and_read(self):
        self.exactly(self.system.arrive(0, 0), None)
        self.exactly(self.system.arrive(0, 0, 4), None)
        self.exactly(self.system.units(0, 0), (5, False))
        self.exactly(self.system.read(0, 0, 2), 2)
        self.exactly(self.system.read(0, 0, None), 3)
        self.system.arrive(0, 0, 2)
        self.exactly(self.system.read(0, 0, 3), 2)
        self.system.arrive(0, 0, 2)
        self.exactly(self.system.read(0, 0, 2), 2)
        self.exactly(self.system.units(0, 0), (0, False))

    def test_finish_keeps_the_units(self):
        self.system.arrive(0, 0, 2)
        self.exactly(self.system.finish(0, 0), None)
        self.exactly(self.system.units(0, 0), (2, True))
        self.exactly(self.system.read(0, 0, 1), 1)
        self.exactly(self.system.read(0, 0), 1)
        self.exactly(self.system.units(0, 0), (0, True))

    def test_finished(self):
        self.system.arrive(0, 0, 2)
        self.system.finish(0, 0)
        self.unchanged(self.system, Finished, {"number": 0}, self.system.arrive, 0, 0)
        self.unchanged(self.system, Finished, {"number": 0}, self.system.finish, 0, 0)
        self.system.copy(0, 0, 6)
        self.unchanged(self.system, Finished, {"number": 6}, self.system.finish, 0, 6)

    def test_counts_at_their_bounds(self):
        self.system.arrive(0, 0, 1)
        self.system.arrive(0, 0, 1000000)
        self.system.arrive(0, 0, 1000000)
        self.exactly(self.system.units(0, 0), (2000001, False))
        self.exactly(self.system.read(0, 0, 1), 1)
        self.exactly(self.system.read(0, 0, 1000000), 1000000)
        self.exactly(self.system.read(0, 0), 1000000)

    def test_no_counts(self):
        self.system.arrive(0, 0, 3)
        for junk in NO_COUNTS:
            self.unchanged(self.system, BadCount, {"count": junk}, self.system.arrive, 0, 0, junk)
            self.unchanged(self.system, BadCount, {"count": junk}, self.system.wait, 0, 1, junk)
            if junk is not None:
                self.unchanged(self.system, BadCount, {"count": junk}, self.system.read, 0, 0, junk)

    def test_sets_have_none(self):
        for action in (self.system.arrive, self.system.finish, self.system.read, self.system.units):
            self.unchanged(self.system, NotASource, {"number": 1}, action, 0, 1)

    def test_order_of_errors(self):
        self.system.finish(0, 0)
        arrive, read = self.system.arrive, self.system.read
        self.unchanged(self.system, NoProcess, {"process": 3}, arrive, 3, 5, 0)
        self.unchanged(self.system, NotOpen, {"number": 5}, arrive, 0, 5, 0)
        self.unchanged(self.system, NotASource, {"number": 1}, arrive, 0, 1, 0)
        self.unchanged(self.system, BadCount, {"count": 0}, arrive, 0, 0, 0)
        self.unchanged(self.system, Finished, {"number": 0}, arrive, 0, 0, 1)
        self.unchanged(self.system, NoProcess, {"process": 3}, read, 3, 5, 0)
        self.unchanged(self.system, NotOpen, {"number": 5}, read, 0, 5, 0)
        self.unchanged(self.system, NotASource, {"number": 1}, read, 0, 1, 0)
        self.unchanged(self.system, BadCount, {"count": 0}, read, 0, 0, 0)
        self.unchanged(self.system, NoProcess, {"process": 3}, self.system.finish, 3, 5)
        self.unchanged(self.system, NotOpen, {"number": 5}, self.system.finish, 0, 5)
        self.unchanged(self.system, NotASource, {"number": 1}, self.system.finish, 0, 1)
        self.unchanged(self.system, NoProcess, {"process": 3}, self.system.units, 3, 5)
        self.unchanged(self.system, NotOpen, {"number": 5}, self.system.units, 0, 5)


if __name__ == "__main__":
    unittest.main()
