"""Point [8]: keys, labels, and registrations that outlive their numbers."""

import unittest

import support
from waitnumbers.errors import BadLabel, BadWord, NoProcess, NotASet, NotASource, NotOpen
from waitnumbers.errors import NotRegistered, Registered, Taken
from waitnumbers.system import System

START = [("new_set", 0), ("new_set", 0), ("new_source", 0), ("new_source", 0)]


class Keys(support.Case):
    def setUp(self):
        self.system = System.played(START)

    def test_calls_return_none(self):
        self.exactly(self.system.add(0, 0, 2, 7), None)
        self.exactly(self.system.change(0, 0, 2, word="edge"), None)
        self.exactly(self.system.remove(0, 0, 2), None)
        self.exactly(self.system.registrations(), [])

    def test_one_source_with_two_numbers(self):
        self.system.copy(0, 2, 5)
        self.system.add(0, 0, 2, 7)
        self.system.add(0, 0, 5, 8, word="once")
        self.exactly(self.system.registrations(), [
            ((0, 0), 7, 2, (0, 2), "level", True), ((0, 0), 8, 5, (0, 2), "once", True),
        ])
        self.unchanged(self.system, Registered, {"number": 5}, self.system.add, 0, 0, 5, 9)
        self.system.remove(0, 0, 2)
        self.exactly(self.system.registrations(), [((0, 0), 8, 5, (0, 2), "once", True)])

    def test_one_number_with_two_sources(self):
        self.system.add(0, 0, 2, 7)
        self.system.fork(0)
        self.system.close(0, 2)
        self.system.new_source(0)
        self.system.add(0, 0, 2, 8)
        self.exactly(self.system.registrations(), [
            ((0, 0), 7, 2, (1, 2), "level", True), ((0, 0), 8, 2, (0, 2), "level", True),
        ])
        self.system.remove(1, 0, 2)
        self.exactly(self.system.registrations(), [((0, 0), 8, 2, (0, 2), "level", True)])
        self.unchanged(self.system, NotRegistered, {"number": 2}, self.system.remove, 1, 0, 2)

    def test_keys_and_labels_are_those_of_one_set(self):
        self.system.add(0, 0, 2, 7)
        self.system.add(0, 1, 2, 7)
        self.unchanged(self.system, NotRegistered, {"number": 3}, self.system.remove, 0, 0, 3)
        self.system.remove(0, 0, 2)
        self.exactly(self.system.registrations(), [((0, 1), 7, 2, (0, 2), "level", True)])

    def test_it_does_not_matter_which_process_made_it(self):
        self.system.fork(0)
        self.system.add(1, 0, 2, 7)
        self.unchanged(self.system, Registered, {"number": 2}, self.system.add, 0, 0, 2, 8)
        self.system.change(0, 0, 2, word="edge")
        self.system.end(1)
        self.exactly(self.system.registrations(), [((0, 0), 7, 2, (0, 2), "edge", True)])
        self.system.remove(0, 0, 2)
        self.exactly(self.system.registrations(), [])

    def test_any_number_of_the_set_will_do(self):
        self.system.copy(0, 0, 6)
        self.system.add(0, 6, 2, 7)
        self.unchanged(self.system, Registered, {"number": 2}, self.system.add, 0, 0, 2, 8)
        self.system.remove(0, 0, 2)
        self.exactly(self.system.registrations(), [])

    def test_labels(self):
        self.system.add(0, 0, 2, 0)
        self.system.add(0, 0, 3, 999999)
        self.system.copy(0, 3, 5)
        for junk in support.JUNK + [1000000]:
            self.unchanged(self.system, BadLabel, {"label": junk}, self.system.add, 0, 0, 5, junk)
        self.unchanged(self.system, Taken, {"label": 0}, self.system.add, 0, 0, 5, 0)
        self.unchanged(self.system, Taken, {"label": 999999}, self.system.add, 0, 0, 5, 999999)
        self.system.remove(0, 0, 2)
        self.system.add(0, 0, 5, 0)

    def test_words(self):
        self.system.add(0, 0, 2, 7)
        for junk in support.JUNK + [0, 1, ["level"], ("level",), "level "]:
            self.unchanged(
                self.system, BadWord, {"word": junk}, lambda: self.system.add(0, 0, 3, 8, word=junk))
            self.unchanged(
                self.system, BadWord, {"word": junk}, lambda: self.system.change(0, 0, 2, word=junk))
        for word in ("edge", "once", "level"):
            self.system.change(0, 0, 2, word=word)
            self.exactly(self.system.registrations(), [((0, 0), 7, 2, (0, 2), word, True)])

    def test_change_keeps_label_and_place(self):
        self.system.add(0, 0, 2, 7)
        self.system.add(0, 0, 3, 4)
        self.system.change(0, 0, 2, word="once")
        self.exactly(self.system.registrations(), [
            ((0, 0), 7, 2, (0, 2), "once", True), ((0, 0), 4, 3, (0, 3), "level", True),
        ])

    def test_adding_again_comes_last(self):
        self.system.add(0, 0, 2, 7)
        self.system.add(0, 0, 3, 4)
        self.system.remove(0, 0, 2)
        self.system.add(0, 0, 2, 7)
        self.exactly([row[1] for row in self.system.registrations()], [4, 7])


class OrderOfErrors(support.Case):
    def setUp(self):
        self.system = System.played(START + [("add", 0, 0, 2, 7, "level")])

    def in_order(self, action):
        """The errors that add, change and remove have in common."""
        self.unchanged(self.system, NoProcess, {"process": 1}, action, 1, 9, 9)
        self.unchanged(self.system, NotOpen, {"number": 9}, action, 0, 9, 8)
        self.unchanged(self.system, NotASet, {"number": 2}, action, 0, 2, 8)
        self.unchanged(self.system, NotASet, {"number": 3}, action, 0, 3, 1)
        self.unchanged(self.system, NotOpen, {"number": 8}, action, 0, 0, 8)
        self.unchanged(self.system, NotASource, {"number": 1}, action, 0, 0, 1)

    def test_add(self):
        add = self.system.add
        self.in_order(lambda process, held, number: add(process, held, number, -1, word="x"))
        self.unchanged(self.system, BadLabel, {"label": -1}, lambda: add(0, 0, 2, -1, word="x"))
        self.unchanged(self.system, BadWord, {"word": "x"}, lambda: add(0, 0, 2, 7, word="x"))
        self.unchanged(self.system, Registered, {"number": 2}, lambda: add(0, 0, 2, 7))
        self.unchanged(self.system, Registered, {"number": 2}, lambda: add(0, 0, 2, 8))
        self.unchanged(self.system, Taken, {"label": 7}, lambda: add(0, 0, 3, 7))

    def test_change(self):
        change = self.system.change
        self.in_order(lambda process, held, number: change(process, held, number, word="x"))
        self.unchanged(self.system, BadWord, {"word": "x"}, lambda: change(0, 0, 3, word="x"))
        self.unchanged(self.system, NotRegistered, {"number": 3}, lambda: change(0, 0, 3, word="edge"))

    def test_remove(self):
        remove = self.system.remove
        self.in_order(lambda process, held, number: remove(process, held, number))
        self.unchanged(self.system, NotRegistered, {"number": 3}, lambda: remove(0, 0, 3))


class Outliving(support.Case):
    """Registrations whose number is closed, or means another thing."""

    def setUp(self):
        self.system = System.played([("new_set", 0), ("new_source", 0), ("add", 0, 0, 1, 7, "level")])

    def test_by_a_copy(self):
        self.system.copy(0, 1, 4)
        self.system.close(0, 1)
        self.exactly(self.system.registrations(), [((0, 0), 7, 1, (0, 4), "level", True)])
        self.unchanged(self.system, NotOpen, {"number": 1}, self.system.remove, 0, 0, 1)
        self.unchanged(self.system, NotRegistered, {"number": 4}, self.system.remove, 0, 0, 4)
        self.system.arrive(0, 4, 2)
        self.exactly(self.system.wait(0, 0), [(7, 2, False)])
        self.exactly(self.system.new_source(0), 1)
        self.unchanged(self.system, NotRegistered, {"number": 1}, self.system.remove, 0, 0, 1)
        self.unchanged(self.system, Taken, {"label": 7}, self.system.add, 0, 0, 1, 7)
        self.system.copy(0, 4, 1)
        self.system.remove(0, 0, 1)
        self.exactly(self.system.registrations(), [])

    def test_by_a_fork(self):
        self.system.fork(0)
        self.system.close(0, 1)
        self.system.new_source(0)
        self.exactly(self.system.registrations(), [((0, 0), 7, 1, (1, 1), "level", True)])
        self.unchanged(
            self.system, NotRegistered, {"number": 1}, lambda: self.system.change(0, 0, 1, word="edge"))
        self.system.arrive(1, 1)
        self.exactly(self.system.wait(0, 0, 5), [(7, 1, False)])
        self.system.change(1, 0, 1, word="edge")
        self.exactly(self.system.wait(0, 0, 5), [(7, 1, False)])
        self.exactly(self.system.wait(0, 0, 5), [])

    def test_in_a_set_that_only_the_other_process_holds(self):
        self.system.fork(0)
        self.system.close(1, 0)
        self.system.close(0, 1)
        self.system.arrive(1, 1)
        self.exactly(self.system.wait(0, 0), [(7, 1, False)])
        self.system.close(1, 1)
        self.exactly(self.system.row_of(0, 0), [])
        self.exactly(self.system.registrations(), [])

    def test_a_copy_is_another_key(self):
        self.system.copy(0, 1, 4)
        self.system.copy(0, 0, 1)
        self.unchanged(self.system, NotASource, {"number": 1}, self.system.remove, 0, 0, 1)
        self.system.add(0, 0, 4, 8)
        self.system.arrive(0, 4)
        self.exactly(self.system.wait(0, 1, 9), [(7, 1, False), (8, 1, False)])


if __name__ == "__main__":
    unittest.main()
