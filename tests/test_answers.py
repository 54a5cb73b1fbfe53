"""Point [12]: calls as objects, their answers, rows of calls; and the example."""

import unittest

import support
from waitnumbers.calls import answers
from waitnumbers.errors import BadCall, BadLimit, NotRegistered
from waitnumbers.system import System

NO_CALLS = [junk for junk in support.JUNK if junk != ("new_source",)] + [
    (), ("new_source",), ("fork",), ("fork", 0, 0), ["fork", 0], "fork 0", (["fork"], 0), (("fork", 0),),
    ("copy", 0, 0), ("copy", 0, 0, None, None), ("read", 0, 0), ("arrive", 0, 0), ("wait", 0, 0),
    ("add", 0, 0, 1, 7), ("change", 0, 0, 1), ("same", 0, 0), ("units", 0), ("numbers", 0, 0),
    ("name", 0, 0), ("row_of", 0, 0), ("twin",), ("answer", ("fork", 0)), ("Fork", 0), ("", 0),
    (0, 0), (None, 0), (True, 0), ("__init__", 0), ("new_source ", 0),
]


class Answers(support.Case):
    def each(self, system, rows):
        for call, wanted in rows:
            self.exactly((call, system.answer(call)), (call, wanted))

    def test_all_sixteen(self):
        self.each(System(processes=2), [
            (("new_set", 0), 0),
            (("new_source", 0), 1),
            (("copy", 0, 1, None), 2),
            (("copy", 0, 1, 5), 5),
            (("close", 0, 2), None),
            (("fork", 0), 1),
            (("arrive", 1, 5, 3), None),
            (("add", 0, 0, 1, 7, "level"), None),
            (("add", 0, 0, 5, 8, "once"), None),
            (("change", 0, 0, 1, "edge"), None),
            (("wait", 0, 0, 2), [(7, 3, False), (8, 3, False)]),
            (("wait", 0, 0, 2), []),
            (("read", 0, 1, 2), 2),
            (("finish", 1, 1), None),
            (("read", 1, 1, None), 1),
            (("units", 0, 1), (0, True)),
            (("numbers", 1), [(0, "set"), (1, "source"), (5, "source")]),
            (("same", 0, 1, 1, 5), True),
            (("same", 0, 0, 1, 5), False),
            (("remove", 0, 0, 1), None),
            (("end", 1), None),
            (("end", 0), None),
            (("fork", 0), "NoProcess"),
        ])

    def test_every_error_that_a_call_raises(self):
        full = [("new_set", 0), ("new_source", 0), ("new_source", 0), ("fork", 0), ("finish", 0, 2)]
        self.each(System.played(full + [("add", 0, 0, 1, 7, "level")], processes=2, numbers=3), [
            (("end", 2), "NoProcess"),
            (("close", 0, 3), "NotOpen"),
            (("copy", 0, 0, 3), "NoNumber"),
            (("copy", 0, 0, None), "Full"),
            (("fork", 0), "NoRoom"),
            (("units", 0, 0), "NotASource"),
            (("wait", 0, 1, 1), "NotASet"),
            (("read", 0, 1, 0), "BadCount"),
            (("finish", 0, 2), "Finished"),
            (("add", 0, 0, 1, -1, "level"), "BadLabel"),
            (("add", 0, 0, 1, 7, "x"), "BadWord"),
            (("add", 0, 0, 1, 7, "level"), "Registered"),
            (("add", 0, 0, 2, 7, "level"), "Taken"),
            (("remove", 0, 0, 2), "NotRegistered"),
        ])

    def test_an_answer_is_what_the_call_returns(self):
        system = System.played([("new_source", 0), ("new_set", 0)])
        self.assertIsInstance(system.answer(("units", 0, 0)), tuple)
        self.assertIsInstance(system.answer(("wait", 0, 1, 1)), list)

    def test_no_calls(self):
        system = System.played([("new_set", 0), ("new_source", 0), ("copy", 0, 1, None)])
        for junk in NO_CALLS:
            self.unchanged(system, BadCall, {"call": junk}, system.answer, junk)

    def test_no_calls_for_a_system_that_is_over(self):
        over = System.played([("end", 0)])
        for junk in NO_CALLS:
            self.unchanged(over, BadCall, {"call": junk}, over.answer, junk)


class Rows(support.Case):
    def test_answers(self):
        row = [("new_source", 0), ("arrive", 0, 0, 2), ("fork", 9), ("read", 0, 0, None)]
        self.exactly(answers(System(), row), [0, None, "NoProcess", 2])
        self.exactly(answers(System(), tuple(row)), [0, None, "NoProcess", 2])
        self.exactly(answers(System(), []), [])
        self.exactly(answers(System(), ()), [])

    def test_answers_do_the_calls(self):
        system = System()
        answers(system, [("new_source", 0), ("arrive", 0, 0, 2)])
        self.exactly(system.units(0, 0), (2, False))

    def test_a_row_of_five_hundred(self):
        row = [("new_source", 0), ("close", 0, 0)] * 250
        self.exactly(answers(System(), row), [0, None] * 250)
        self.assertTrue(System.played(row) == System())

    def test_the_first_that_is_no_call_before_any_is_done(self):
        for junk in NO_CALLS:
            for row in ([junk], [("new_set", 0), junk, ("fork",), 5], (("new_set", 0), ("end", 0), junk)):
                system = System()
                self.unchanged(system, BadCall, {"call": junk}, answers, system, row)
                self.refused(BadCall, {"call": junk}, System.played, row)

    def test_played(self):
        row = [("new_source", 0), ("fork", 3), ("fork", 0), ("end", 0)]
        system = System.played(row, processes=2, numbers=3)
        self.exactly((system.limits, system.alive()), ((2, 3), [1]))
        self.exactly(System.played([]).limits, (4, 8))
        self.assertTrue(System.played(()) == System())

    def test_played_and_its_errors_in_order(self):
        self.refused(BadLimit, {"limit": 9}, lambda: System.played([5], numbers=9))
        self.refused(BadCall, {"call": 5}, lambda: System.played([5], numbers=8))


class Example(support.Case):
    """The example of the document, row by row."""

    def test_the_example(self):
        box = System()
        s = box.new_set(0)
        n = box.new_source(0)
        self.exactly((s, n), (0, 1))
        self.exactly(box.add(0, s, n, 7), None)
        m = box.copy(0, n)
        self.exactly(m, 2)
        self.exactly(box.close(0, n), None)
        self.exactly(box.arrive(0, m), None)
        self.exactly(box.wait(0, s), [(7, 1, False)])
        k = box.new_source(0)
        self.exactly(k, 1)
        self.unchanged(box, NotRegistered, {"number": 1}, lambda: box.remove(0, s, k))
        self.exactly(box.registrations(), [((0, 0), 7, 1, (0, 2), "level", True)])
        before = box.twin()
        self.exactly(box.fork(0), 1)
        self.exactly(box.copy(1, m, 1), 1)
        self.exactly(box.remove(1, s, 1), None)
        self.exactly(box.end(1), None)
        self.exactly(box.registrations(), [])
        self.exactly(box.row_of(0, s), [])
        self.exactly(box.numbers(0), before.numbers(0))
        self.exactly((box.units(0, 1), box.units(0, 2)), ((0, False), (1, False)))
        self.exactly(box.alive(), [0])


if __name__ == "__main__":
    unittest.main()
