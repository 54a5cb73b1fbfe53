"""Points [19] and [20]: workers, their steps, what they keep, and schedules."""

import unittest

import support
from waitnumbers.calls import answers
from waitnumbers.crews import Crew
from waitnumbers.errors import BadStep, NotPossible

# A set 0 with the registrations 7 of the source 1 and 8 of the source 2.
START = "new_set 0; new_source 0; new_source 0; add 0 0 1 7 level; add 0 0 2 8 edge; "
BOTH = START + "arrive 0 1 3; arrive 0 2 1; "
TAKE = ("take", 0)
ALL = ("read", None)
CLOSE = ("close",)
REMOVE = ("remove", 0)
MAKE = ("make",)


def crew_of(text, *workers, **limits):
    return Crew(support.system_of(text, **limits), *workers)


def kept(crew):
    """All that a crew shows, as text."""
    workers = range(len(crew.workers))
    return repr((
        support.shown(crew.system()), crew.possible(), len(crew),
        [(crew.taken(worker), crew.made(worker)) for worker in workers],
    ))


class Steps(support.Case):
    def behind(self, text, *steps):
        """The system behind these steps of one worker, who has the process 0."""
        return crew_of(text, (0, steps)).done([0] * len(steps)).system()

    def same_as(self, text, steps, calls):
        """The steps do what these calls do behind the same beginning."""
        self.exactly(support.shown(self.behind(text, *steps)), support.shown(support.system_of(text + calls)))

    def test_take(self):
        crew = crew_of(BOTH, (0, (TAKE, TAKE)))
        self.exactly(crew.taken(0), None)
        one = crew.after(0)
        self.exactly((one.taken(0), one.made(0)), (1, None))
        self.exactly(one.system().row_of(0, 0), [8, 7])
        two = one.after(0)
        self.exactly(two.taken(0), 2)
        self.exactly(two.system().row_of(0, 0), [7])

    def test_take_settles_as_wait_does(self):
        for word in ("level", "edge", "once"):
            self.same_as("new_set 0; new_source 0; add 0 0 1 7 " + word + "; arrive 0 1 1; ", (TAKE,), "wait 0 0 1")

    def test_take_by_another_number_of_the_set(self):
        self.same_as(BOTH + "copy 0 0 5; ", (("take", 5), CLOSE), "wait 0 5 1; close 0 1")

    def test_read(self):
        self.same_as(BOTH, (TAKE, ALL), "wait 0 0 1; read 0 1 -")
        self.same_as(BOTH, (TAKE, ("read", 2)), "wait 0 0 1; read 0 1 2")
        self.same_as(BOTH, (TAKE, ("read", 9), ("read", 1)), "wait 0 0 1; read 0 1 9")

    def test_close(self):
        self.same_as(BOTH, (TAKE, CLOSE), "wait 0 0 1; close 0 1")
        self.same_as(BOTH, (TAKE, TAKE, CLOSE), "wait 0 0 2; close 0 2")

    def test_remove(self):
        self.same_as(BOTH, (TAKE, REMOVE), "wait 0 0 1; remove 0 0 1")
        self.same_as(BOTH + "copy 0 0 4; ", (TAKE, ("remove", 4)), "wait 0 0 1; remove 0 4 1")
        self.same_as(
            BOTH + "new_set 0; add 0 3 1 7 once; ", (TAKE, ("remove", 3)), "wait 0 0 1; remove 0 3 1",
        )

    def test_make(self):
        crew = crew_of(BOTH, (0, (MAKE, MAKE))).after(0)
        self.exactly((crew.taken(0), crew.made(0)), (None, 3))
        self.exactly(crew.after(0).made(0), 4)
        self.same_as(BOTH + "close 0 1; ", (MAKE, MAKE), "new_source 0; new_source 0")

    def test_watch(self):
        for word in ("level", "edge", "once"):
            self.same_as(BOTH, (MAKE, ("watch", 0, 5, word)), "new_source 0; add 0 0 3 5 " + word)
        self.same_as(
            BOTH, (MAKE, MAKE, ("watch", 0, 5, "edge"), ("watch", 0, 6, "edge")),
            "new_source 0; new_source 0; add 0 0 4 5 edge",
        )

    def test_call(self):
        for call in (
            "close 0 1", "fork 0", "arrive 0 1 2", "finish 0 2", "wait 0 0 9", "new_set 0", "copy 0 1 -", "end 0",
            "read 0 1 2", "change 0 0 2 once", "remove 0 0 2", "numbers 0", "same 0 0 0 1", "units 0 1",
            "new_source 0",
        ):
            [given] = support.calls_of(call)
            self.same_as(BOTH, (("call", given),), call)
            # Of another process than the worker's.
            crew = crew_of(BOTH + "fork 0; ", (1, (("call", given),))).after(0)
            self.exactly(support.shown(crew.system()), support.shown(support.system_of(BOTH + "fork 0; " + call)))

    def test_a_call_keeps_nothing(self):
        crew = crew_of(BOTH, (0, (("call", ("wait", 0, 0, 1)), ("call", ("new_source", 0)), CLOSE)))
        behind = crew.done((0, 0))
        self.exactly((behind.taken(0), behind.made(0)), (None, None))
        self.exactly(behind.after(0).system().numbers(0), behind.system().numbers(0))

    def test_a_call_that_raises_an_error_is_done(self):
        for call in support.PLAIN_CALLS:
            for junk in support.JUNK:
                given = (call[0], junk, *call[2:])
                crew = crew_of(BOTH, (0, (("call", given), CLOSE))).after(0)
                self.exactly(support.shown(crew.system()), support.shown(support.system_of(BOTH)))
                self.exactly(len(crew), 1)

    def test_nothing_taken_or_made(self):
        for step in (ALL, ("read", 1), CLOSE, REMOVE, ("watch", 0, 5, "level")):
            crew = crew_of(BOTH, (0, (step, TAKE)))
            self.exactly(crew.possible(), [0])
            self.exactly(crew.is_stray(0), False)
            behind = crew.after(0)
            self.exactly(support.shown(behind.system()), support.shown(crew.system()))
            self.exactly((behind.taken(0), behind.made(0), len(behind)), (None, None, 1))
        # What is made is not taken, and the other way round.
        self.same_as(BOTH, (MAKE, CLOSE, ALL, REMOVE), "new_source 0")
        self.same_as(BOTH, (TAKE, ("watch", 0, 5, "level")), "wait 0 0 1")

    def test_steps_whose_calls_raise_errors(self):
        """They do nothing and are done; what is kept stays."""
        ahead = (TAKE, MAKE)
        for step in (
            ("read", 0), ("read", True), ("read", "1"), ("read", [1]), ("remove", 1), ("remove", 6), ("remove", None),
            ("watch", 0, 7, "level"), ("watch", 0, -1, "level"), ("watch", 0, 5, "Level"), ("watch", 1, 5, "level"),
            ("watch", 6, 5, "level"), ("watch", True, 5, "level"), ("watch", 0, True, "edge"), ("watch", 0, 5, ()),
        ):
            crew = crew_of(BOTH, (0, (*ahead, step))).done((0, 0))
            behind = crew.after(0)
            self.exactly(support.shown(behind.system()), support.shown(crew.system()))
            self.exactly((behind.taken(0), behind.made(0), len(behind)), (1, 3, 0))

    def test_a_second_removal_or_closing(self):
        self.same_as(BOTH, (TAKE, REMOVE, REMOVE), "wait 0 0 1; remove 0 0 1")
        self.same_as(BOTH, (TAKE, CLOSE, CLOSE, ALL, REMOVE), "wait 0 0 1; close 0 1")

    def test_a_make_that_raises_an_error_leaves_what_was_made(self):
        crew = crew_of(BOTH, (0, (MAKE, MAKE, ("watch", 0, 5, "edge"))), processes=2, numbers=4)
        behind = crew.done((0, 0))
        self.exactly(behind.made(0), 3)
        self.exactly(behind.after(0).system().registrations()[2], ((0, 0), 5, 3, (0, 3), "edge", True))
        nothing = crew_of("new_source 0; " * 3, (0, (MAKE, ("watch", 0, 5, "edge"))), numbers=3).done([0, 0])
        self.exactly((nothing.made(0), len(nothing)), (None, 0))

    def test_the_number_made_is_kept_as_a_number(self):
        """What it means by then is registered."""
        crew = crew_of(START, (0, (MAKE, ("watch", 0, 5, "edge"))), (0, (("call", ("copy", 0, 1, 3)),)))
        self.exactly(crew.done((0, 1, 0)).system().registrations()[2], ((0, 0), 5, 3, (0, 1), "edge", True))

    def test_parts_are_any_objects(self):
        for junk in support.JUNK:
            steps = (
                ("take", junk), ("read", junk), ("remove", junk), ("watch", junk, junk, junk),
                ("call", ("close", junk, junk)),
            )
            for step in steps:
                crew = crew_of(BOTH, (0, (TAKE, MAKE, step))).done((0, 0))
                if step[0] == "take":
                    self.exactly(crew.possible(), [])
                    continue
                behind = crew.after(0)
                allowed = step == ("read", None)
                self.assertEqual(support.shown(behind.system()) == support.shown(crew.system()), not allowed)


class Takes(support.Case):
    def possible(self, text, wanted, *workers, **limits):
        crew = crew_of(text, *workers, **limits)
        before = kept(crew)
        self.exactly(crew.possible(), wanted)
        self.assertEqual(kept(crew), before)
        for index in range(len(workers)):
            if index not in wanted:
                self.refused(NotPossible, {"index": index}, crew.after, index)
                self.refused(NotPossible, {"index": index}, crew.is_stray, index)
        self.assertEqual(kept(crew), before)
        return crew

    def test_only_with_a_report(self):
        worker = (0, (TAKE,))
        self.possible(START, [], worker)
        self.possible(START + "arrive 0 1 1", [0], worker)
        self.possible(START + "finish 0 2", [0], worker)
        self.possible(START + "arrive 0 2 1; wait 0 0 1", [], worker)
        self.possible(START + "arrive 0 1 1; read 0 1 -", [], worker)
        self.possible("new_set 0", [], worker)

    def test_a_wait_that_raises_an_error_gives_no_report(self):
        for set_number in (1, 2, 3, 7, 8, -1, *support.JUNK):
            self.possible(BOTH, [1], (0, (("take", set_number),)), (0, (TAKE,)))

    def test_of_the_process_of_the_worker(self):
        text = BOTH + "fork 0; close 1 0; "
        self.possible(text, [0], (0, (TAKE,)), (1, (TAKE,)))
        self.possible(text + "copy 1 1 0; ", [0], (0, (TAKE,)), (1, (TAKE,)))
        crew = self.possible(BOTH + "fork 0; close 1 1; ", [0, 1], (0, (TAKE,)), (1, (TAKE, ALL, CLOSE)))
        # The number is free in its process; the same number of the process 0 stays.
        behind = crew.done((1, 1, 1))
        self.exactly(behind.taken(1), 1)
        self.exactly(behind.system().numbers(0), crew.system().numbers(0))
        self.exactly(behind.system().units(0, 1), (3, False))

    def test_those_ahead_that_are_not_ready(self):
        """They stay in the queue until a take is possible, and leave it then."""
        text = START + "arrive 0 1 1; read 0 1 -; "
        crew = self.possible(text, [1], (0, (TAKE,)), (0, (("call", ("arrive", 0, 2, 4)),)))
        self.exactly(crew.system().row_of(0, 0), [7])
        ready = crew.after(1)
        self.exactly((ready.possible(), ready.system().row_of(0, 0)), ([0], [7, 8]))
        behind = ready.after(0)
        self.exactly((behind.taken(0), behind.system().row_of(0, 0)), (2, []))
        self.exactly(ready.system().row_of(0, 0), [7, 8])

    def test_a_queue_stays_while_a_take_is_not_possible(self):
        text = START + "arrive 0 1 1; arrive 0 2 1; read 0 1 -; read 0 2 -; "
        again = ("call", ("arrive", 0, 1, 1))
        crew = self.possible(text, [1], (0, (TAKE,)), (0, (("call", ("numbers", 0)), again)))
        behind = crew.after(1)
        self.exactly((behind.possible(), behind.system().row_of(0, 0)), ([1], [7, 8]))
        last = behind.after(1)
        self.exactly((last.possible(), last.system().row_of(0, 0)), ([0], [7, 8]))
        self.exactly(last.after(0).system().row_of(0, 0), [8, 7])

    def test_a_take_may_become_impossible(self):
        crew = self.possible(START + "arrive 0 2 1; ", [0, 1], (0, (TAKE,)), (0, (TAKE,)))
        self.exactly(crew.after(0).possible(), [])
        self.exactly(crew.after(1).possible(), [])
        self.refused(NotPossible, {"index": 1}, crew.done, (0, 1))

    def test_only_a_take_waits(self):
        for step in (ALL, CLOSE, REMOVE, MAKE, ("watch", 0, 7, "edge"), ("call", ("wait", 0, 0, 1))):
            self.possible(START, [0], (0, (step,)))

    def test_done_workers(self):
        self.possible(BOTH, [1], (0, ()), (0, (TAKE,)))
        self.possible(BOTH, [])
        crew = crew_of(BOTH, (0, (TAKE,)), (0, (TAKE,))).after(1)
        self.exactly(crew.possible(), [0])

    def test_what_is_taken_is_the_registration_that_is_reported(self):
        """Its number and its source, not what its number means by then."""
        text = START + "copy 0 1 5; close 0 1; new_source 0; arrive 0 5 1; "
        crew = crew_of(text, (0, (TAKE, ALL, REMOVE, CLOSE))).after(0)
        self.exactly(crew.taken(0), 1)
        self.exactly([crew.is_stray(0), crew.done((0,)).is_stray(0), crew.done((0, 0)).is_stray(0)], [True] * 3)
        behind = crew.done((0, 0, 0)).system()
        self.exactly(behind.numbers(0), [(0, "set"), (2, "source"), (5, "source")])
        self.exactly(len(behind.registrations()), 2)


class Processes(support.Case):
    def test_a_process_that_has_ended(self):
        """Its worker goes on: takes are not possible, all else does nothing."""
        steps = (TAKE, MAKE, ALL, CLOSE, REMOVE, MAKE, ("watch", 0, 5, "edge"), TAKE)
        crew = crew_of(BOTH + "fork 0; ", (1, steps), (0, (("call", ("end", 1)),)))
        crew = crew.done((0, 0, 1))
        before = support.shown(crew.system())
        for many in range(5):
            self.exactly(crew.possible(), [0])
            self.exactly(crew.is_stray(0), False)
            crew = crew.after(0)
            self.exactly(support.shown(crew.system()), before)
            self.exactly((crew.taken(0), crew.made(0)), (1, 3))
        self.exactly((crew.possible(), len(crew)), ([], 1))

    def test_its_number_may_be_alive_again(self):
        crew = crew_of(BOTH + "fork 0; ", (1, (TAKE, CLOSE)), (0, (("call", ("end", 1)), ("call", ("fork", 0)))))
        behind = crew.done((0, 1, 1, 0))
        self.exactly(behind.system().numbers(1), [(0, "set"), (2, "source")])
        crew = crew_of(BOTH + "fork 0; ", (1, (TAKE, CLOSE)), (0, (("call", ("end", 1)), ("call", ("fork", 0)))))
        self.exactly(crew.done((1,)).possible(), [1])
        self.exactly(crew.done((1, 1)).possible(), [0])

    def test_a_system_that_is_over(self):
        crew = crew_of(BOTH, (0, (TAKE, ALL, MAKE, TAKE)), (0, (("call", ("end", 0)),))).done((0, 1))
        self.exactly(crew.possible(), [0])
        crew = crew.done((0, 0))
        self.exactly((crew.possible(), len(crew), crew.system().alive()), ([], 1, []))


class Indexes(support.Case):
    def setUp(self):
        self.crew = crew_of(BOTH, (0, (TAKE, CLOSE)), (0, (ALL, TAKE)), (0, ()), (0, (("take", 1),)))

    def test_any_object(self):
        before = kept(self.crew)
        for junk in support.JUNK + [2, 3, 4, -2, 100]:
            self.refused(NotPossible, {"index": junk}, self.crew.after, junk)
            self.refused(NotPossible, {"index": junk}, self.crew.is_stray, junk)
            for rest in ([], [junk], [0, 1], support.JUNK):
                self.refused(NotPossible, {"index": junk}, self.crew.done, [junk, *rest])
                self.refused(NotPossible, {"index": junk}, self.crew.done, (0, 1, junk, *rest))
        self.assertEqual(kept(self.crew), before)

    def test_true_and_false_are_no_indexes(self):
        crew = crew_of(BOTH, (0, (MAKE,)), (0, (MAKE,)))
        for junk in (True, False):
            self.refused(NotPossible, {"index": junk}, crew.after, junk)
            self.refused(NotPossible, {"index": junk}, crew.is_stray, junk)
            self.refused(NotPossible, {"index": junk}, crew.done, (junk,))

    def test_the_first_index_that_is_not_possible(self):
        self.refused(NotPossible, {"index": 0}, self.crew.done, (0, 0, 0, 1))
        self.refused(NotPossible, {"index": 2}, self.crew.done, (0, 2, 3))
        self.refused(NotPossible, {"index": 3}, self.crew.done, [1, 0, 3, 2])

    def test_a_schedule_as_a_tuple_or_a_list(self):
        for schedule in ((), (0,), (1, 0), (0, 1, 0, 1), (0, 1, 1, 0)):
            behind = self.crew
            for index in schedule:
                behind = behind.after(index)
            self.assertTrue(self.crew.done(schedule) == behind)
            self.assertTrue(self.crew.done(list(schedule)) == behind)
            self.exactly(kept(self.crew.done(schedule)), kept(behind))

    def test_by_names(self):
        self.assertTrue(self.crew.after(index=0) == self.crew.done(schedule=(0,)))
        self.exactly(self.crew.is_stray(index=0), False)
        behind = self.crew.done((0,))
        self.exactly((behind.taken(worker=0), behind.made(worker=0)), (1, None))


class NoSteps(support.Case):
    def bad(self, worker, step, *workers):
        system = support.system_of(BOTH + "fork 0; ")
        before = support.shown(system)
        self.refused(BadStep, {"worker": worker, "step": step}, Crew, system, *workers)
        self.assertEqual(support.shown(system), before)

    def test_any_object(self):
        for junk in support.JUNK:
            self.bad(0, 0, (0, (junk,)))
            self.bad(1, 2, (0, (TAKE,)), (1, (TAKE, CLOSE, junk, junk)))

    def test_names(self):
        for name in ("Take", "take ", "", "wait", "new_source", "end", True, None, 0, ("take",), ["take"]):
            self.bad(0, 1, (0, (TAKE, (name, 0))))
            self.bad(0, 1, (0, (TAKE, (name,))))

    def test_numbers_of_parts(self):
        right = {"take": 1, "read": 1, "close": 0, "remove": 1, "make": 0, "watch": 3}
        for name, many in right.items():
            for parts in range(6):
                step = (name, *[0] * parts)
                if parts == many:
                    self.exactly(len(crew_of(BOTH, (0, (step,)))), 1)
                else:
                    self.bad(0, 0, (0, (step,)))

    def test_no_tuple(self):
        for step in (TAKE, CLOSE, ("watch", 0, 5, "edge"), ("call", ("fork", 0))):
            self.bad(0, 0, (0, (list(step),)))
        self.bad(0, 0, (0, ("take", "close")))
        self.bad(0, 0, (0, (0, 1)))

    def test_objects_that_are_no_call(self):
        for junk in support.JUNK:
            self.bad(0, 0, (0, (("call", junk),)))
        for call in support.PLAIN_CALLS:
            self.exactly(len(crew_of(BOTH, (0, (("call", call),)))), 1)
            self.bad(0, 0, (0, (("call", list(call)),)))
            self.bad(0, 0, (0, (("call", call[:-1]),)))
            self.bad(0, 0, (0, (("call", (*call, 0)),)))
            self.bad(0, 0, (0, (("call", (call[0].upper(), *call[1:])),)))
            self.bad(0, 0, (0, (("call", *call),)))
            self.bad(0, 0, (0, (call,)))
        self.bad(0, 0, (0, (("call",),)))
        self.bad(0, 0, (0, (("call", ("fork", 0), 0),)))

    def test_the_first_one(self):
        bad = ("take",)
        self.bad(0, 0, (0, (bad, bad)), (0, (bad,)))
        self.bad(1, 0, (0, (TAKE,)), (0, (bad,)), (1, (bad,)))
        self.bad(0, 5, (0, (TAKE,) * 5 + (bad,)), (0, (bad,)))
        self.bad(3, 1, (0, ()), (0, ()), (0, ()), (1, (MAKE, bad)))


class Copies(support.Case):
    def test_a_crew_has_a_twin_of_the_system(self):
        system = support.system_of(BOTH)
        twin = system.twin()
        crew = Crew(system, (0, (TAKE, CLOSE)))
        self.assertTrue(crew.system() == twin)
        crew.done((0, 0))
        self.assertTrue(system == twin)
        system.close(0, 1)
        self.assertTrue(crew.system() == twin)
        crew.system().close(0, 1)
        self.assertTrue(crew.system() == twin)
        self.assertIsNot(crew.system(), crew.system())

    def test_after_leaves_the_crew_as_it_was(self):
        steps = (TAKE, ALL, MAKE, ("watch", 0, 5, "edge"), REMOVE, CLOSE)
        crew = crew_of(BOTH, (0, steps), (0, steps))
        for index in (0, 1, 0, 0, 1, 0, 0, 1, 0, 1, 1, 1):
            before, twin = kept(crew), crew.done(())
            behind = crew.after(index)
            after = kept(behind)
            self.exactly(crew.is_stray(index), twin.is_stray(index))
            self.assertEqual(kept(crew), before)
            self.assertTrue(crew == twin)
            self.assertFalse(crew == behind)
            # The other way round: what follows the crew changes nothing behind it.
            for other in crew.possible():
                crew.after(other)
            self.assertEqual(kept(behind), after)
            self.exactly(len(behind), len(crew) - 1)
            crew = behind
        self.exactly((len(crew), crew.possible()), (0, []))

    def test_a_list_of_the_possible_is_new(self):
        crew = crew_of(BOTH, (0, (TAKE,)), (0, (TAKE,)))
        crew.possible().clear()
        self.exactly(crew.possible(), [0, 1])

    def test_arguments_stay(self):
        workers = [(0, (TAKE, ("read", [1]), ("remove", [[0]]))), (0, (("call", ("close", 0, [])),))]
        before = repr(workers)
        crew = crew_of(BOTH, *workers)
        schedule = [0, 0, 0, 1]
        crew.done(schedule)
        self.exactly((repr(workers), schedule), (before, [0, 0, 0, 1]))

    def test_how_many_steps_are_left(self):
        crew = crew_of(BOTH, (0, (TAKE, CLOSE)), (0, ()), (0, (MAKE,)))
        self.exactly([len(crew), len(crew.after(0)), len(crew.done((2, 0, 0)))], [3, 2, 0])
        self.exactly(len(crew_of(BOTH)), 0)
        self.exactly(len(crew_of(BOTH, (0, (TAKE,) * 6), (0, (TAKE,) * 6), (0, (TAKE,)), (0, (TAKE,)))), 14)


class Equality(support.Case):
    def unlike(self, *crews):
        for at, one in enumerate(crews):
            for there, other in enumerate(crews):
                self.exactly(one == other, at == there)
                self.exactly(one != other, at != there)

    def alike(self, one, other):
        self.exactly([one == other, other == one, one != other], [True, True, False])

    def test_equal_crews(self):
        worker = (0, (TAKE, CLOSE))
        self.alike(crew_of(BOTH, worker), crew_of(BOTH, worker))
        self.alike(crew_of(BOTH), crew_of(BOTH))
        self.alike(crew_of(BOTH + "close 0 2; new_source 0; close 0 2", worker), crew_of(BOTH + "close 0 2", worker))
        crew = crew_of(BOTH, worker, worker)
        self.alike(crew.done((0, 1)), crew.done([0, 1]))

    def test_the_same_by_another_order(self):
        crew = crew_of(BOTH, (0, (("call", ("arrive", 0, 1, 1)),)), (0, (("call", ("arrive", 0, 1, 2)),)))
        self.alike(crew.done((0, 1)), crew.done((1, 0)))
        self.unlike(crew.after(0), crew.after(1), crew, crew.done((0, 1)))

    def test_systems(self):
        worker = (0, (TAKE, CLOSE))
        self.unlike(*[
            crew_of(text, worker) for text in (BOTH, START, BOTH + "fork 0", BOTH + "wait 0 0 1", BOTH + "close 0 1")
        ])
        self.unlike(crew_of(BOTH, worker), crew_of(BOTH, worker, numbers=7), crew_of(BOTH, worker, processes=5))

    def test_alike_systems_are_not_equal(self):
        one = "new_set 0; new_source 0; new_source 0; add 0 0 1 7 edge; add 0 0 2 8 edge"
        other = "new_set 0; new_source 0; new_source 0; add 0 0 2 8 edge; add 0 0 1 7 edge"
        self.unlike(crew_of(one), crew_of(other))

    def test_workers(self):
        text = BOTH + "fork 0; "
        self.unlike(*[crew_of(text, *workers) for workers in (
            (), ((0, ()),), ((0, ()), (0, ())), ((1, ()),), ((0, (TAKE,)),), ((1, (TAKE,)),), ((0, (TAKE, TAKE)),),
            ((0, (CLOSE,)),), ((0, (TAKE,)), (0, (CLOSE,))), ((0, (CLOSE,)), (0, (TAKE,))), ((0, (("take", 1),)),),
        )])

    def test_parts_of_steps(self):
        """True is not 1, nor False 0, however deep they stand."""
        parts = [0, False, 1, True, None, "1", "True", "", (), [], (1,), [1], (True,), [True], [[1]], [[True]],
                 ((0,),), ((False,),), [0, [False]], [False, [0]], -1, 10 ** 20 - 1, "x" * 400, "None"]
        for made in (
            lambda part: ("take", part), lambda part: ("read", part), lambda part: ("remove", part),
            lambda part: ("watch", part, 0, "edge"), lambda part: ("watch", 0, part, "edge"),
            lambda part: ("watch", 0, 0, part), lambda part: ("call", ("close", part, 1)),
            lambda part: ("call", ("add", 0, 0, 1, 2, part)),
        ):
            self.unlike(*[crew_of(BOTH, (0, (TAKE, made(part)))) for part in parts])
            # Also when the step is done already.
            unlike = [crew_of("", (0, (made(part),))) for part in (1, True, 0, False)]
            if made(0)[0] != "take":
                self.unlike(*[crew.after(0) for crew in unlike])

    def test_equal_parts_that_are_not_the_same_objects(self):
        for part in support.JUNK:
            again = eval(repr(part))
            self.alike(crew_of(BOTH, (0, (("take", part),))), crew_of(BOTH, (0, (("take", again),))))

    def test_the_next_step(self):
        idle = ("call", ("numbers", 0))
        crew = crew_of(BOTH, (0, (idle, idle)), (0, (idle, idle)))
        self.unlike(crew, crew.after(0), crew.after(1), crew.done((0, 1)), crew.done((0, 0)), crew.done((1, 1)))
        self.alike(crew.done((0, 1)), crew.done((1, 0)))

    def test_what_is_made(self):
        """Both numbers are closed again, so the systems are equal."""
        steps = (MAKE, ("call", ("close", 0, 3)), ("call", ("close", 0, 4)))
        two = crew_of(BOTH, (0, steps), (0, (("call", ("new_source", 0)),)))
        made, later = two.done((0, 1, 0, 0)), two.done((1, 0, 0, 0))
        self.assertTrue(made.system() == later.system())
        self.exactly([made.made(0), later.made(0)], [3, 4])
        self.unlike(made, later)

    def test_a_number_made_and_none(self):
        worker = (0, (MAKE, ("call", ("end", 0))))
        two = crew_of("fork 0; ", worker, (1, (("call", ("end", 0)),)))
        made, none = two.done((0, 1, 0)), two.done((1, 0, 0))
        self.assertTrue(made.system() == none.system())
        self.exactly([made.made(0), none.made(0)], [0, None])
        self.unlike(made, none)

    def test_the_number_taken(self):
        """Two registrations of one source; the queue is the same again behind both."""
        text = "new_set 0; new_source 0; copy 0 1 2; add 0 0 1 7 level; add 0 0 2 8 level; arrive 0 1 1; "
        crew = crew_of(text, (0, (TAKE,)), (0, (("call", ("wait", 0, 0, 1)),)))
        one, other = crew.done((0, 1)), crew.done((1, 0))
        self.assertTrue(one.system() == other.system())
        self.exactly([one.taken(0), other.taken(0)], [1, 2])
        self.unlike(one, other)

    def test_the_source_taken(self):
        """The number is the same, and the systems are."""
        text = (
            "new_set 0; new_source 0; add 0 0 1 7 level; copy 0 1 2; close 0 1; new_source 0; add 0 0 1 8 level; "
            "arrive 0 1 1; arrive 0 2 1; "
        )
        crew = crew_of(text, (0, (TAKE, CLOSE)), (0, (("call", ("wait", 0, 0, 1)),)))
        one, other = crew.done((0, 1)), crew.done((1, 0))
        self.assertTrue(one.system() == other.system())
        self.exactly([one.taken(0), other.taken(0)], [1, 1])
        self.exactly(sorted([one.is_stray(0), other.is_stray(0)]), [False, True])
        self.unlike(one, other)

    def test_a_source_that_has_ended_in_both(self):
        """Which one it was makes no difference then."""
        text = (
            "new_set 0; new_source 0; add 0 0 1 7 level; copy 0 1 2; close 0 1; new_source 0; add 0 0 1 8 level; "
            "arrive 0 1 1; arrive 0 2 1; "
        )
        ends = (("call", ("close", 0, 1)), ("call", ("close", 0, 2)))
        crew = crew_of(text, (0, (TAKE, *ends)), (0, (("call", ("wait", 0, 0, 1)),)))
        one, other = crew.done((0, 1)), crew.done((1, 0))
        self.unlike(one, other)
        self.unlike(one.after(0), other.after(0))
        self.alike(one.done((0, 0)), other.done((0, 0)))

    def test_a_source_that_has_ended_in_one(self):
        """In one the number means the source again, in the other a new one like it."""
        for text, made in (("new_set 0; new_source 0; ", (0, 1)), ("new_source 0; new_set 0; ", (1, 0))):
            row = f"add 0 {made[0]} {made[1]} 7 level; arrive 0 {made[1]} 1"
            again = support.calls_of(f"close 0 {made[1]}; new_source 0; " + row)
            crew = crew_of(text + row, (0, (("take", made[0]), CLOSE)), (0, tuple(("call", call) for call in again)))
            one, other = crew.done((0, 1, 1, 1, 1)), crew.done((1, 1, 1, 1, 0))
            self.assertTrue(one.system() == other.system())
            self.exactly([one.taken(0), other.taken(0)], [made[1], made[1]])
            self.exactly([one.is_stray(0), other.is_stray(0)], [True, False])
            self.unlike(one, other)

    def test_a_source_is_kept_by_its_name(self):
        """Its name may have changed since; other things in equal systems are the same ones."""
        text = "new_set 0; new_source 0; copy 0 1 2; add 0 0 1 7 level; arrive 0 1 1; "
        worker = (0, (TAKE, ("call", ("close", 0, 1)), ALL))
        one = crew_of(text, worker).done((0, 0))
        other = crew_of("new_source 0; close 0 0; " + text, worker).done((0, 0))
        self.alike(one, other)

    def test_nothing_else(self):
        crew = crew_of(BOTH, (0, (TAKE,)))
        for other in [*support.JUNK, crew.system(), crew.workers, object()]:
            self.exactly([crew == other, crew != other, other == crew], [False, True, False])


class Stray(support.Case):
    """Point [21], one step at a time."""

    def stray(self, text, steps, wanted, *calls):
        """The last of the steps, behind all before it and behind these calls."""
        crew = crew_of(text, (0, steps), (0, tuple(("call", call) for call in support.calls_of("; ".join(calls)))))
        crew = crew.done([0] * (len(steps) - 1) + [1] * len(calls))
        before = kept(crew)
        self.exactly(crew.is_stray(0), wanted)
        self.assertEqual(kept(crew), before)
        return crew

    def each(self, wanted, *calls, text=BOTH):
        for step in (ALL, ("read", 1), ("read", "no count"), CLOSE, REMOVE, ("remove", 5), ("remove", None)):
            self.stray(text, (TAKE, step), wanted, *calls)

    def test_the_number_means_the_source(self):
        self.each(False)
        self.each(False, "arrive 0 1 4")
        self.each(False, "finish 0 1")
        self.each(False, "copy 0 1 2", "copy 0 2 1")

    def test_the_number_is_free(self):
        self.each(False, "close 0 1")
        self.each(False, "copy 0 1 5", "close 0 1")
        self.each(False, "fork 0", "close 0 1")

    def test_the_number_means_another_source(self):
        self.each(True, "copy 0 2 1")
        self.each(True, "copy 0 1 5", "close 0 1", "new_source 0")
        self.each(True, "close 0 1", "new_source 0")

    def test_the_number_means_a_set(self):
        """Then the call raises an error, or closes the set."""
        self.each(True, "copy 0 0 1")
        self.each(True, "close 0 1", "new_set 0")

    def test_the_number_means_the_source_again(self):
        self.each(False, "copy 0 1 5", "close 0 1", "copy 0 5 1")
        self.each(False, "copy 0 1 5", "copy 0 2 1", "copy 0 5 1")
        self.each(False, "copy 0 1 5", "close 0 1", "new_source 0", "close 0 1", "copy 0 5 -")

    def test_in_another_process_it_means_what_it_may(self):
        self.each(False, "fork 0", "copy 1 2 1")
        self.each(True, "fork 0", "copy 0 2 1")

    def test_other_steps_are_none(self):
        moved = ["copy 0 2 1"]
        for step in (MAKE, ("watch", 0, 5, "edge"), ("call", ("close", 0, 1)), ("call", ("read", 0, 1, None)), TAKE):
            self.stray(BOTH, (TAKE, step), False, *moved)

    def test_nothing_taken(self):
        for step in (ALL, CLOSE, REMOVE):
            self.stray(BOTH, (MAKE, step), False, "copy 0 2 3")

    def test_a_later_take_replaces_what_was_kept(self):
        for step in (ALL, CLOSE, REMOVE):
            self.stray(BOTH, (TAKE, TAKE, step), False, "copy 0 2 1")
            self.stray(BOTH, (TAKE, TAKE, step), True, "copy 0 1 2")

    def test_a_stray_does_what_its_call_does(self):
        crew = self.stray(BOTH, (TAKE, ALL), True, "copy 0 2 1")
        self.exactly(answers(crew.after(0).system(), [("units", 0, 2)]), [(0, False)])
        crew = self.stray(BOTH, (TAKE, CLOSE), True, "close 0 1", "new_set 0")
        self.exactly(crew.after(0).system().numbers(0), [(0, "set"), (2, "source")])

    def test_not_possible(self):
        crew = crew_of(START, (0, (TAKE,)), (0, ()))
        for index in (0, 1, 2, -1, True):
            self.refused(NotPossible, {"index": index}, crew.is_stray, index)


if __name__ == "__main__":
    unittest.main()
