"""Points [9] and [10]: the order of each queue, and what wait reports."""

import unittest

import support
from waitnumbers.errors import BadCount, NoProcess, NotASet, NotOpen
from waitnumbers.system import System

# Two sets at 0 and 1, three sources at 2, 3 and 4.
START = [("new_set", 0), ("new_set", 0), ("new_source", 0), ("new_source", 0), ("new_source", 0)]


class Queues(support.Case):
    def setUp(self):
        self.system = System.played(START)

    def queue(self, wanted, number=0):
        self.exactly(self.system.row_of(0, number), wanted)

    def test_arrivals_in_their_order(self):
        self.system.add(0, 0, 2, 5)
        self.system.add(0, 0, 3, 6)
        self.queue([])
        self.system.arrive(0, 3)
        self.queue([6])
        self.system.arrive(0, 2)
        self.system.arrive(0, 3)
        self.queue([6, 5])

    def test_one_source_in_the_order_of_adding(self):
        for number, label in ((7, 30), (2, 10), (5, 20)):
            self.system.copy(0, 2, number)
            self.system.add(0, 0, number, label)
        self.system.arrive(0, 2)
        self.queue([30, 10, 20])

    def test_a_change_keeps_the_place_in_the_order_of_adding(self):
        self.system.copy(0, 2, 5)
        self.system.add(0, 0, 2, 8)
        self.system.add(0, 0, 5, 4)
        self.system.change(0, 0, 2, word="edge")
        self.system.arrive(0, 5)
        self.queue([8, 4])

    def test_every_set(self):
        self.system.add(0, 0, 2, 5)
        self.system.add(0, 1, 2, 6)
        self.system.add(0, 1, 3, 7)
        self.system.finish(0, 3)
        self.system.arrive(0, 2)
        self.queue([5])
        self.queue([7, 6], 1)

    def test_also_sets_that_the_process_does_not_hold(self):
        self.system.add(0, 0, 2, 5)
        self.system.fork(0)
        self.system.close(1, 0)
        self.system.arrive(1, 2)
        self.queue([5])

    def test_finish(self):
        self.system.add(0, 0, 2, 5)
        self.system.finish(0, 2)
        self.queue([5])
        self.exactly(self.system.wait(0, 0, 3), [(5, 0, True)])
        self.queue([5])

    def test_a_pending_one_keeps_its_place(self):
        self.system.add(0, 0, 2, 5)
        self.system.add(0, 0, 3, 6)
        self.system.arrive(0, 2)
        self.system.arrive(0, 3)
        self.system.arrive(0, 2)
        self.system.finish(0, 2)
        self.queue([5, 6])
        self.system.change(0, 0, 2, word="once")
        self.queue([5, 6])

    def test_adding_a_ready_source(self):
        self.system.arrive(0, 2)
        self.system.finish(0, 3)
        self.system.add(0, 0, 3, 6)
        self.system.add(0, 0, 2, 5, word="once")
        self.system.add(0, 0, 4, 7)
        self.queue([6, 5])

    def test_changing(self):
        self.system.add(0, 0, 2, 5, word="edge")
        self.system.add(0, 0, 3, 6)
        self.system.change(0, 0, 2, word="level")
        self.queue([])
        self.system.change(0, 0, 2, word="edge")
        self.system.arrive(0, 2)
        self.system.arrive(0, 3)
        self.exactly(self.system.wait(0, 0), [(5, 1, False)])
        self.queue([6])
        self.system.change(0, 0, 2, word="edge")
        self.queue([6, 5])

    def test_one_that_ends_leaves(self):
        for number in (2, 3, 4):
            self.system.add(0, 0, number, number)
            self.system.arrive(0, number)
        self.system.remove(0, 0, 3)
        self.queue([2, 4])
        self.system.close(0, 2)
        self.queue([4])
        self.system.add(0, 0, 3, 3)
        self.queue([4, 3])

    def test_reading_changes_no_queue(self):
        self.system.add(0, 0, 2, 5)
        self.system.arrive(0, 2)
        self.exactly(self.system.read(0, 2), 1)
        self.queue([5])
        self.system.change(0, 0, 2, word="edge")
        self.queue([5])

    def test_one_that_is_not_ready_keeps_its_place_too(self):
        self.system.add(0, 0, 2, 5)
        self.system.add(0, 0, 3, 6)
        self.system.arrive(0, 2)
        self.system.arrive(0, 3)
        self.system.read(0, 2)
        self.system.arrive(0, 2)
        self.queue([5, 6])


class Waits(support.Case):
    def setUp(self):
        self.system = System.played(START)

    def fill(self, *words):
        """A registration with each word, all of them pending, labels from 10."""
        for at, word in enumerate(words):
            self.system.add(0, 0, 2 + at, 10 + at, word=word)
            self.system.arrive(0, 2 + at, 1 + at)

    def queue(self, wanted):
        self.exactly(self.system.row_of(0, 0), wanted)

    def test_nothing_pending(self):
        self.exactly(self.system.wait(0, 0), [])
        self.system.add(0, 0, 2, 5)
        self.exactly(self.system.wait(0, 0, 1000000), [])

    def test_level_goes_to_the_end(self):
        self.fill("level", "level", "level")
        self.exactly(self.system.wait(0, 0), [(10, 1, False)])
        self.queue([11, 12, 10])
        self.exactly(self.system.wait(0, 0, 2), [(11, 2, False), (12, 3, False)])
        self.queue([10, 11, 12])
        self.exactly(self.system.wait(0, 0, 4), [(10, 1, False), (11, 2, False), (12, 3, False)])
        self.queue([10, 11, 12])

    def test_edge_reports_again_behind_an_arrival(self):
        self.fill("edge")
        self.exactly(self.system.wait(0, 0, 5), [(10, 1, False)])
        self.exactly(self.system.wait(0, 0, 5), [])
        self.exactly(self.system.registrations(), [((0, 0), 10, 2, (0, 2), "edge", True)])
        self.system.arrive(0, 2)
        self.exactly(self.system.wait(0, 0, 5), [(10, 2, False)])
        self.system.finish(0, 2)
        self.exactly(self.system.wait(0, 0, 5), [(10, 2, True)])

    def test_once_reports_again_behind_a_change(self):
        self.fill("once")
        self.exactly(self.system.wait(0, 0, 5), [(10, 1, False)])
        self.exactly(self.system.registrations(), [((0, 0), 10, 2, (0, 2), "once", False)])
        self.system.arrive(0, 2)
        self.system.finish(0, 2)
        self.queue([])
        self.exactly(self.system.wait(0, 0, 5), [])
        self.system.change(0, 0, 2, word="once")
        self.exactly(self.system.registrations(), [((0, 0), 10, 2, (0, 2), "once", True)])
        self.exactly(self.system.wait(0, 0, 5), [(10, 2, True)])
        self.exactly(self.system.wait(0, 0, 5), [])

    def test_once_stays_in_the_order_of_adding(self):
        self.system.copy(0, 2, 6)
        self.system.add(0, 0, 2, 5, word="once")
        self.system.add(0, 0, 6, 4, word="level")
        self.system.arrive(0, 2)
        self.system.wait(0, 0)
        self.system.change(0, 0, 2, word="edge")
        self.exactly([row[1] for row in self.system.registrations()], [5, 4])

    def test_changed_without_units_waits_for_an_arrival(self):
        self.fill("once")
        self.system.wait(0, 0)
        self.system.read(0, 2)
        self.system.change(0, 0, 2, word="once")
        self.queue([])
        self.system.arrive(0, 2)
        self.queue([10])

    def test_the_words_together(self):
        self.fill("edge", "level", "once")
        self.exactly(self.system.wait(0, 0, 9), [(10, 1, False), (11, 2, False), (12, 3, False)])
        self.queue([11])

    def test_most_is_a_bound_on_reports_only(self):
        self.fill("level", "level", "level")
        self.system.read(0, 2)
        self.exactly(self.system.wait(0, 0, 1), [(11, 2, False)])
        self.queue([12, 11])
        self.exactly(self.system.registrations()[0], ((0, 0), 10, 2, (0, 2), "level", True))

    def test_what_stands_behind_the_last_report_is_not_taken(self):
        self.fill("edge", "level", "level")
        self.system.read(0, 3)
        self.exactly(self.system.wait(0, 0, 1), [(10, 1, False)])
        self.queue([11, 12])

    def test_none_is_ready(self):
        self.fill("level", "edge", "once")
        for number in (2, 3, 4):
            self.system.read(0, number)
        self.exactly(self.system.wait(0, 0, 1), [])
        self.queue([])
        self.assertTrue(all(row[5] for row in self.system.registrations()))

    def test_one_that_was_not_ready_is_pending_again_behind_an_arrival(self):
        self.fill("level")
        self.system.read(0, 2)
        self.system.wait(0, 0)
        self.queue([])
        self.system.arrive(0, 2)
        self.queue([10])

    def test_a_finished_source_is_ready_without_units(self):
        self.fill("level")
        self.system.read(0, 2)
        self.system.finish(0, 2)
        self.exactly(self.system.wait(0, 0), [(10, 0, True)])

    def test_a_wait_in_another_process_takes_from_the_same_queue(self):
        self.fill("level", "level")
        self.system.fork(0)
        self.system.copy(1, 0, 7)
        self.exactly(self.system.wait(1, 7), [(10, 1, False)])
        self.exactly(self.system.wait(0, 0), [(11, 2, False)])

    def test_errors(self):
        self.fill("level")
        wait = self.system.wait
        self.unchanged(self.system, NoProcess, {"process": 1}, wait, 1, 9, 0)
        self.unchanged(self.system, NotOpen, {"number": 7}, wait, 0, 7, 0)
        self.unchanged(self.system, NotASet, {"number": 2}, wait, 0, 2, 0)
        for junk in support.JUNK + [0, 1000001]:
            self.unchanged(self.system, BadCount, {"count": junk}, wait, 0, 0, junk)
        self.exactly(wait(0, 0, 1000000), [(10, 1, False)])
        self.unchanged(self.system, NoProcess, {"process": 1}, self.system.row_of, 1, 9)
        self.unchanged(self.system, NotOpen, {"number": 7}, self.system.row_of, 0, 7)
        self.unchanged(self.system, NotASet, {"number": 2}, self.system.row_of, 0, 2)


if __name__ == "__main__":
    unittest.main()
