"""Points [21] to [23]: least strays, complete schedules, removals, and bounds."""

import itertools
import math
import time
import unittest

import support
import walks
from waitnumbers.crews import Crew
from waitnumbers.errors import BadPlace, NotPossible, TooMany
from waitnumbers.strays import counted, fewest_removals, least_stray, with_removals
from waitnumbers.system import System

TAKE = ("take", 0)
ALL = ("read", None)
CLOSE = ("close",)
REMOVE = ("remove", 0)
MAKE = ("make",)
IDLE = ("call", ("numbers", 0))
UNIT = ("call", ("arrive", 0, 1, 1))

# The source of the registration 7 lives on in the process 1 when the process 0 closes it.
LEVEL = "new_set 0; new_source 0; add 0 0 1 7 level; arrive 0 1 1; fork 0; "
EDGE = "new_set 0; new_source 0; add 0 0 1 7 edge; arrive 0 1 1; fork 0; "
# Two numbers of one source in tables of eight.
MANY = "new_set 0; new_source 0; add 0 0 1 7 level; copy 0 1 2; add 0 0 2 8 level; arrive 0 1 1; fork 0; "

TWICE = (TAKE, CLOSE, TAKE, CLOSE)
THRICE = TWICE + (TAKE, CLOSE)
# Each of three processes has a set of its own, and others hold their sources.
APART = "fork 0; fork 0; " + "".join(
    f"new_set {process}; new_source {process}; add {process} 0 1 7 level; arrive {process} 1 1; "
    for process in range(3)
) + "fork 0; fork 1; fork 2; "


def calling(*calls):
    return tuple(("call", call) for call in calls)


def crew_of(text, *workers, **limits):
    return Crew(support.system_of(text, **limits), *workers)


def shown(crew):
    workers = range(len(crew.workers))
    return repr((
        support.shown(crew.system()), len(crew), crew.possible(),
        [(crew.taken(worker), crew.made(worker)) for worker in workers],
    ))


class Checks(support.Case):
    def checked(self, text, *workers, processes=4, numbers=8):
        """The crew, once all that is told of it is compared with a walk through its states."""
        crew = crew_of(text, *workers, processes=processes, numbers=numbers)
        before, twin = shown(crew), crew.done(())
        walk = walks.Merged(walks.band_of(support.calls_of(text), workers, processes, numbers))
        self.exactly(least_stray(crew), walk.least)
        self.exactly(counted(crew), (walk.complete, walk.strayed))
        if walk.least is not None:
            self.exactly(crew.done(walk.least[:-1]).is_stray(walk.least[-1]), True)
        self.assertEqual(shown(crew), before)
        self.assertTrue(crew == twin)
        return crew

    def fewest(self, wanted, text, *workers, processes=4, numbers=8):
        crew = crew_of(text, *workers, processes=processes, numbers=numbers)
        before, twin = shown(crew), crew.done(())
        self.exactly(fewest_removals(crew), wanted)
        self.exactly(walks.fewest(support.calls_of(text), workers, processes, numbers), wanted)
        if wanted is not None:
            self.exactly(least_stray(with_removals(crew, wanted)), None)
        self.assertEqual(shown(crew), before)
        self.assertTrue(crew == twin)
        return crew


class LeastStray(Checks):
    def test_none(self):
        for workers in (
            (), ((0, ()),), ((0, (TAKE, ALL, CLOSE)),), ((0, (ALL, CLOSE, REMOVE)),), ((0, (MAKE,)), (0, (TAKE, CLOSE))),
            ((0, (TAKE, CLOSE)), (1, (TAKE, CLOSE))),
        ):
            self.exactly(least_stray(self.checked(LEVEL, *workers)), None)
        self.exactly(least_stray(self.checked("", (0, (TAKE, CLOSE)))), None)
        self.exactly(least_stray(self.checked("end 0")), None)

    def test_a_number_that_is_used_again(self):
        """One worker acts on the number that another one has closed, and a third one opened."""
        workers = ((0, (TAKE, CLOSE)), (0, (TAKE, CLOSE)), (0, (MAKE,)))
        self.exactly(least_stray(self.checked(LEVEL, *workers)), (0, 0, 1, 2, 1))
        # Without the third one the number is free: no stray.
        self.exactly(least_stray(self.checked(LEVEL, *workers[:2])), None)

    def test_each_kind_of_step(self):
        for step in (ALL, ("read", 1), CLOSE, REMOVE):
            crew = self.checked(LEVEL, (0, (TAKE, step)), (0, calling(("copy", 0, 0, 1))))
            self.exactly(least_stray(crew), (0, 1, 0))
            crew = self.checked(LEVEL, (0, (TAKE, step)), (0, calling(("close", 0, 1))))
            self.exactly(least_stray(crew), None)

    def test_steps_that_raise_an_error_are_strays_all_the_same(self):
        for step in (("read", "no count"), ("read", 0), ("remove", 6), ("remove", None), ("remove", 0)):
            crew = self.checked(LEVEL, (0, (TAKE, step)), (0, calling(("close", 0, 1), ("new_source", 0))))
            self.exactly(least_stray(crew), (0, 1, 1, 0))

    def test_a_number_that_means_the_source_again(self):
        moves = calling(("copy", 0, 1, 3), ("close", 0, 1), ("copy", 0, 3, 1))
        self.exactly(least_stray(self.checked(LEVEL, (0, (TAKE, CLOSE)), (0, moves))), None)
        moves = calling(("copy", 0, 1, 3), ("copy", 0, 0, 1), ("copy", 0, 3, 1))
        self.exactly(least_stray(self.checked(LEVEL, (0, (TAKE, CLOSE)), (0, moves))), (0, 1, 1, 0))

    def test_a_number_that_is_free_in_a_process_that_has_ended(self):
        ends = calling(("end", 0))
        self.exactly(least_stray(self.checked(LEVEL, (0, (TAKE, CLOSE)), (1, ends))), None)
        # The process number is alive again, with the table of another process.
        ends = calling(("end", 0), ("fork", 1))
        self.exactly(least_stray(self.checked(LEVEL, (0, (TAKE, CLOSE)), (1, ends))), None)
        text = LEVEL + "copy 0 1 5; new_set 1; "
        ends = calling(("copy", 1, 2, 1), ("end", 0), ("fork", 1))
        self.exactly(least_stray(self.checked(text, (0, (TAKE, CLOSE)), (1, ends))), (0, 1, 1, 1, 0))

    def test_of_equally_short_ones_the_least(self):
        move = calling(("copy", 0, 0, 1))
        worker = (0, (TAKE, ALL))
        self.exactly(least_stray(self.checked(LEVEL, worker, worker, (0, move))), (0, 2, 0))
        self.exactly(least_stray(self.checked(LEVEL, (0, move), worker, worker)), (0, 1, 1))
        self.exactly(least_stray(self.checked(LEVEL, worker, (0, move), worker)), (0, 1, 0))
        # Both take, both can be the stray.
        move = calling(("copy", 0, 1, 4), ("copy", 0, 0, 1))
        self.exactly(least_stray(self.checked(EDGE, (0, move), (0, (MAKE, TAKE, ALL)), worker)), (0, 0, 2, 2))

    def test_a_short_one_that_is_not_the_least_before_a_long_one(self):
        workers = ((0, (IDLE, IDLE, TAKE, ALL)), (0, (TAKE, ALL)), (0, calling(("copy", 0, 0, 1))))
        self.exactly(least_stray(self.checked(LEVEL, *workers)), (1, 2, 1))

    def test_the_same_state_by_several_ways(self):
        """It counts with the least schedule that leads to it."""
        workers = ((0, (UNIT, TAKE, CLOSE)), (0, (UNIT, IDLE)), (0, calling(("copy", 0, 1, 5), ("copy", 0, 0, 1))))
        text = "new_set 0; new_source 0; add 0 0 1 7 edge; "
        self.exactly(least_stray(self.checked(text, *workers)), (0, 0, 2, 2, 0))

    def test_a_crew_whose_steps_are_done_in_part(self):
        """Also then the schedules are those from here on."""
        crew = crew_of(LEVEL, (0, (TAKE, CLOSE)), (0, (TAKE, CLOSE)), (0, (MAKE,)))
        self.exactly(least_stray(crew.done((0, 0))), (1, 2, 1))


class Counted(Checks):
    def test_nothing_to_do(self):
        self.exactly(counted(crew_of("")), (1, 0))
        self.exactly(counted(crew_of(LEVEL, (0, ()), (1, ()))), (1, 0))
        self.exactly(counted(crew_of("", (0, (TAKE,)))), (1, 0))

    def test_steps_that_change_nothing(self):
        for rows in ((1, 1), (2, 3), (3, 3, 2), (4, 4, 3, 3), (6, 6, 1, 1)):
            crew = crew_of("", *[(0, (IDLE,) * many) for many in rows])
            wanted = math.factorial(sum(rows))
            for many in rows:
                wanted //= math.factorial(many)
            self.exactly(counted(crew), (wanted, 0))

    def test_complete_ones_that_end_where_takes_are_not_possible(self):
        crew = self.checked(EDGE, (0, (TAKE, ALL)), (0, (TAKE, ALL)))
        self.exactly(counted(crew), (2, 0))
        crew = self.checked(EDGE, (0, (TAKE, UNIT)), (0, (TAKE, IDLE)))
        self.exactly(counted(crew), (2, 0))

    def test_those_with_a_stray(self):
        move = calling(("copy", 0, 0, 1))
        self.exactly(counted(self.checked(LEVEL, (0, (TAKE, ALL)), (0, move))), (3, 2))
        self.exactly(counted(self.checked(LEVEL, (0, (TAKE, ALL, ALL)), (0, move))), (4, 3))
        idle = (0, (IDLE, IDLE))
        self.exactly(counted(self.checked(LEVEL, (0, (TAKE, ALL)), (0, move), idle)), (30, 20))

    def test_one_with_two_strays_counts_once(self):
        crew = self.checked(LEVEL, (0, (TAKE, *calling(("copy", 0, 0, 1)), ALL, ALL, CLOSE)))
        self.exactly(counted(crew), (1, 1))

    def test_a_stray_that_is_not_in_the_state_any_more(self):
        """Equal states with and without a stray behind them: all schedules are counted."""
        move, back = ("copy", 0, 2, 1), ("copy", 0, 3, 1)
        text = LEVEL + "new_source 0; copy 0 1 3; "
        crew = self.checked(text, (0, (TAKE, ("read", 0))), (0, calling(move, back)))
        self.exactly(counted(crew), (6, 2))

    def test_known_small_crews(self):
        for text in (LEVEL, EDGE, MANY):
            for workers in itertools.product(
                [(TAKE, CLOSE, MAKE), (TAKE, ALL, CLOSE)], [(TAKE, CLOSE), (MAKE, ("watch", 0, 5, "level"))], [(UNIT,), (MAKE,)],
            ):
                self.checked(text, *[(0, steps) for steps in workers])


class WithRemovals(Checks):
    def same(self, crew, wanted):
        """The very steps, and a system of its own."""
        self.assertTrue(crew == wanted)
        self.exactly(shown(crew), shown(wanted))

    def test_at_each_place_at_several_in_any_order_at_none(self):
        text = LEVEL + "copy 0 0 5; "
        steps = (TAKE, CLOSE, ("take", 5), CLOSE, CLOSE)
        others = (MAKE, ("take", 5), ALL, CLOSE)
        crew = crew_of(text, (0, steps), (1, others))
        five = ("remove", 5)
        wanted = {(0, 1): REMOVE, (0, 3): five, (0, 4): five, (1, 3): five}
        for many in range(5):
            for places in itertools.permutations(wanted, many):
                rows = [
                    tuple(
                        part for at, step in enumerate(row)
                        for part in ([wanted[index, at], step] if (index, at) in places else [step])
                    )
                    for index, row in enumerate((steps, others))
                ]
                self.same(with_removals(crew, places), crew_of(text, (0, rows[0]), (1, rows[1])))
                self.same(with_removals(crew, list(places)), crew_of(text, (0, rows[0]), (1, rows[1])))
        self.exactly(len(crew), 9)

    def test_the_set_number_of_the_last_take_whatever_it_is(self):
        for junk in support.JUNK:
            crew = crew_of(LEVEL, (0, (TAKE, ("take", junk), ("remove", 3), CLOSE, TAKE)))
            wanted = crew_of(LEVEL, (0, (TAKE, ("take", junk), ("remove", 3), ("remove", junk), CLOSE, TAKE)))
            self.same(with_removals(crew, [(0, 3)]), wanted)

    def test_a_removal_that_is_there_already(self):
        crew = crew_of(LEVEL, (0, (TAKE, REMOVE, CLOSE)))
        self.same(with_removals(crew, [(0, 2)]), crew_of(LEVEL, (0, (TAKE, REMOVE, REMOVE, CLOSE))))

    def test_a_new_crew(self):
        crew = crew_of(LEVEL, (0, (TAKE, CLOSE)), (1, (MAKE,)))
        before = shown(crew)
        for places in ([], [(0, 1)]):
            made = with_removals(crew, places)
            self.assertIsNot(made, crew)
            made.done((0,) * (2 + len(places)))
            made.system().close(0, 0)
            self.assertEqual(shown(crew), before)
        self.same(with_removals(crew=crew, places=()), crew)

    def test_places_stay(self):
        places = [(1, 1), (0, 1)]
        crew = crew_of(LEVEL, (0, (TAKE, CLOSE)), (1, (TAKE, CLOSE)))
        with_removals(crew, places)
        self.exactly(places, [(1, 1), (0, 1)])

    def test_bad_places(self):
        """No closing, no take ahead of it, no step, no worker, any object."""
        steps = (CLOSE, TAKE, CLOSE, ALL, MAKE)
        crew = crew_of(LEVEL, (0, steps), (0, (CLOSE, MAKE, CLOSE)), (0, (TAKE, CLOSE)))
        before = shown(crew)
        bad = [(0, 0), (0, 1), (0, 3), (0, 4), (0, 5), (1, 0), (1, 2), (2, 0), (2, 2), (3, 1), (-1, 1), (0, -3), (2, -1)]
        bad += [[0, 2], (0, 2, 0), (0,), ((0, 2),), ("0", 2), (0, "2"), (None, 2), (False, 2), (2, True), (0, (2,)), (0, [2])]
        for place in [*bad, *support.JUNK]:
            for places in ([place], [(0, 2), place, 5], [(2, 1), place, (0, 0)], [place, place], [(0, 2), (2, 1), place]):
                self.refused(BadPlace, {"place": place}, with_removals, crew, places)
                self.refused(BadPlace, {"place": place}, with_removals, crew, tuple(places))
        self.assertEqual(shown(crew), before)

    def test_the_steps_are_all_still_to_be_done(self):
        crew = with_removals(crew_of(LEVEL, (0, TWICE)), [(0, 1), (0, 3)])
        self.exactly((len(crew), crew.taken(0), crew.possible()), (6, None, [0]))
        behind = crew.done((0, 0, 0))
        self.exactly((behind.system().registrations(), behind.possible()), ([], []))
        self.refused(NotPossible, {"index": 0}, crew.done, (0, 0, 0, 0))


class FewestRemovals(Checks):
    def test_none_are_needed(self):
        self.fewest([], "")
        self.fewest([], LEVEL, (0, (TAKE, CLOSE)))
        self.fewest([], LEVEL, (0, TWICE), (1, TWICE))
        self.fewest([], LEVEL, (0, (MAKE, CLOSE)))

    def test_one(self):
        """The level-triggered registration is taken again, by a number that is used again."""
        crew = self.fewest([(1, 1)], LEVEL, (0, (MAKE,)), (0, TWICE), processes=2, numbers=3)
        self.exactly(least_stray(crew), (1, 1, 0, 1, 1))
        self.exactly(least_stray(with_removals(crew, [(1, 3)])), (1, 1, 0, 1, 1))
        self.exactly(least_stray(with_removals(crew, [(1, 1), (1, 3)])), None)
        self.fewest([(0, 1)], LEVEL, (0, TWICE), (0, (MAKE,)), processes=2, numbers=3)
        self.fewest([(0, 2)], LEVEL, (0, (TAKE, ALL, CLOSE, TAKE, CLOSE)), (0, (MAKE, *calling(("arrive", 1, 1, 1)))))

    def test_a_removal_can_be_a_stray_itself(self):
        """Ahead of the first closing it is none, ahead of the other one it is."""
        workers = ((0, (TAKE, CLOSE, *calling(("new_source", 0)), CLOSE)),)
        crew = self.fewest(None, LEVEL, *workers)
        self.exactly(least_stray(with_removals(crew, [(0, 3)])), (0, 0, 0, 0))
        self.exactly(counted(with_removals(crew, [(0, 1), (0, 3)])), (1, 1))

    def test_none_does(self):
        self.fewest(None, LEVEL, (0, (TAKE, ALL)), (0, calling(("copy", 0, 0, 1))))
        self.fewest(None, LEVEL, (0, (TAKE, CLOSE)), (0, (TAKE, CLOSE)), (0, (MAKE,)))
        self.fewest(None, LEVEL, (0, (TAKE, CLOSE, MAKE)), (0, (TAKE, CLOSE, MAKE)), numbers=4)

    def test_several(self):
        text = "new_set 0; new_source 0; add 0 0 1 5 edge; new_source 0; add 0 0 2 6 level; fork 0; arrive 0 1 1; arrive 0 2 1"
        self.fewest([(1, 1), (2, 1)], text, (0, (MAKE,)), (0, (TAKE, CLOSE)), (0, TWICE), processes=2, numbers=4)
        self.fewest([(0, 1), (2, 1)], text, (0, TWICE), (0, (MAKE,)), (0, (TAKE, CLOSE)), processes=2, numbers=3)
        more = calling(("finish", 1, 1))
        watch = (MAKE, ("watch", 0, 8, "level"), *more)
        self.fewest([(0, 1), (2, 1)], EDGE, (0, (TAKE, CLOSE)), (0, watch), (0, (TAKE, CLOSE)), processes=2, numbers=3)

    def test_of_equally_short_ones_the_least(self):
        """Its number means the source again at the second closing, so a removal at either place does."""
        text = LEVEL + "copy 0 1 5; "
        steps = (TAKE, CLOSE, *calling(("copy", 0, 5, 1)), CLOSE, TAKE, ALL)
        crew = self.fewest([(0, 1)], text, (0, steps), (0, (MAKE,)))
        self.exactly(least_stray(crew), (0, 0, 0, 0, 0, 1, 0))
        for places in ([(0, 3)], [(0, 1)], [(0, 1), (0, 3)]):
            self.exactly(least_stray(with_removals(crew, places)), None)
        self.fewest([(1, 1)], text, (0, (MAKE,)), (0, steps))

    def test_a_removal_that_comes_too_late(self):
        """At the second closing the number is free, so nothing can be removed there."""
        crew = self.fewest([(0, 1)], LEVEL, (0, (TAKE, CLOSE, CLOSE, MAKE, TAKE, ALL)))
        self.exactly(least_stray(crew), (0,) * 6)
        self.exactly(least_stray(with_removals(crew, [(0, 2)])), (0,) * 7)

    def test_six_places(self):
        crew = self.fewest(
            [(0, 1), (1, 1)], APART, (0, THRICE), (1, THRICE), (0, calling(("new_source", 0), ("new_source", 1))),
            processes=6, numbers=4,
        )
        self.exactly(least_stray(crew), (0, 0, 0, 2, 0))
        self.fewest(None, LEVEL, (0, (TAKE, CLOSE, CLOSE, CLOSE, CLOSE, CLOSE)), (0, (TAKE, CLOSE)), (0, (MAKE,)))
        self.fewest([], LEVEL, (0, (TAKE, CLOSE, CLOSE, CLOSE)), (1, (TAKE, CLOSE, CLOSE, CLOSE)))

    def test_seven_places(self):
        for text in (LEVEL, "", "end 0"):
            crew = crew_of(text, (0, (TAKE,) + (CLOSE,) * 4), (0, (TAKE,) + (CLOSE,) * 3))
            self.refused(TooMany, {"limit": 6}, fewest_removals, crew)
        self.refused(TooMany, {"limit": 6}, fewest_removals, crew_of(LEVEL, (0, (TAKE,) + (CLOSE,) * 9)))

    def test_closings_that_are_no_places_do_not_count(self):
        """No take is ahead of them."""
        idle = (CLOSE, CLOSE, CLOSE)
        self.fewest([], LEVEL, (0, (TAKE, *idle)), (0, (TAKE, *idle)), (0, idle), (0, (*idle, TAKE)))

    def test_more_states_than_a_thousand(self):
        """Only least_stray and counted ask how many there are."""
        crew = crew_of(MANY, *BEYOND)
        self.exactly(fewest_removals(crew), None)
        idle = tuple(("call", ("arrive", 1, 1, many)) for many in (1, 2, 4, 8))
        crew = crew_of(LEVEL, *[(0, (MAKE, step, IDLE)) for step in idle])
        self.refused(TooMany, {"limit": 1000}, counted, crew)
        self.exactly(fewest_removals(crew), [])

    def test_the_list_is_the_callers(self):
        for workers in (((0, (MAKE,)), (0, TWICE)), ((0, (MAKE,)),)):
            crew = crew_of(LEVEL, *workers)
            got = fewest_removals(crew)
            kept = list(got)
            got.append("mine")
            self.exactly(fewest_removals(crew), kept)


# A thousand states, and one more; there are strays early in both.
BOUND = (
    (0, (UNIT, IDLE, ALL)), (0, (TAKE, CLOSE, ALL)), (0, (IDLE, CLOSE, IDLE)), (0, (MAKE, MAKE, IDLE, IDLE)),
)
BEYOND = (
    (0, (CLOSE, UNIT, UNIT, REMOVE, TAKE)), (0, (MAKE, TAKE, TAKE, MAKE, CLOSE)), (0, (TAKE, CLOSE, REMOVE)),
)
# The same without a stray, and near by.
CALM_BOUND = (
    (0, (MAKE, ALL)), (0, (IDLE, MAKE, UNIT, ALL, IDLE)), (0, (ALL, MAKE, IDLE, UNIT)), (0, (UNIT, UNIT, ALL)),
)
CALM_BEYOND = (
    (0, (MAKE, TAKE, REMOVE)), (0, (MAKE, CLOSE, CLOSE, CLOSE)), (0, (REMOVE, TAKE, MAKE, MAKE, CLOSE, IDLE)),
)
BELOW = (
    (0, (UNIT, CLOSE, TAKE, TAKE, ALL)), (0, (IDLE, MAKE)), (0, (TAKE, IDLE)), (0, (TAKE, ALL, ALL, UNIT)),
)
ABOVE = (
    (0, (MAKE, IDLE, MAKE)), (0, (MAKE, REMOVE)), (0, (TAKE, CLOSE, CLOSE, REMOVE, CLOSE)), (0, (REMOVE, IDLE)),
)


class Bounds(Checks):
    def many(self, workers):
        return walks.Merged(walks.band_of(support.calls_of(MANY), workers, 4, 8))

    def test_up_to_a_thousand_states(self):
        for workers, many, least in ((BOUND, 1000, (1, 1, 3, 1)), (CALM_BOUND, 1000, None), (BELOW, 999, None)):
            walk = self.many(workers)
            self.exactly((walk.many, walk.least), (many, least))
            crew = crew_of(MANY, *workers)
            self.exactly(least_stray(crew), least)
            self.exactly(counted(crew), (walk.complete, walk.strayed))

    def test_more_states(self):
        for workers, many, least in (
            (BEYOND, 1001, (2, 2, 1, 2)), (CALM_BEYOND, 1001, None), (ABOVE, 1002, (2, 2, 0, 2)),
        ):
            walk = self.many(workers)
            self.exactly((walk.many, walk.least), (many, least))
            crew = crew_of(MANY, *workers)
            before = shown(crew)
            self.refused(TooMany, {"limit": 1000}, least_stray, crew)
            self.refused(TooMany, {"limit": 1000}, counted, crew)
            self.assertEqual(shown(crew), before)

    def test_workers_in_another_order(self):
        totals = set()
        for workers in itertools.permutations(BOUND):
            crew = crew_of(MANY, *workers)
            totals.add(counted(crew))
            self.exactly(len(least_stray(crew)), 4)
        self.exactly(len(totals), 1)
        for workers in itertools.permutations(BEYOND):
            self.refused(TooMany, {"limit": 1000}, least_stray, crew_of(MANY, *workers))
            self.refused(TooMany, {"limit": 1000}, counted, crew_of(MANY, *workers))

    def test_many_schedules_of_few_states(self):
        crew = crew_of(LEVEL, *[(0, (IDLE,) * many) for many in (4, 4, 3, 3)])
        self.exactly(least_stray(crew), None)
        self.exactly(counted(crew), (math.factorial(14) // (24 * 24 * 6 * 6), 0))

    def test_crews_with_removals(self):
        """They may have more steps than others, and are counted as they are."""
        crew = crew_of(APART, (0, THRICE), (1, THRICE), processes=6, numbers=4)
        places = [(worker, step) for worker in (0, 1) for step in (1, 3, 5)]
        full = with_removals(crew, places)
        self.exactly(len(full), 18)
        self.exactly(least_stray(full), None)
        self.exactly(counted(full)[1], 0)


class RunningTime(Checks):
    def test_close_to_a_thousand_states_with_six_places(self):
        steps = (TAKE, CLOSE, CLOSE)
        places = [(worker, step) for worker in range(3) for step in (1, 2)]
        calm = (0, (IDLE, IDLE, IDLE))
        moving = (0, calling(("copy", 2, 0, 1)))
        begin = time.process_time()
        for last, wanted in ((calm, []), (moving, None)):
            crew = crew_of(APART, (0, steps), (1, steps), (2, steps), last, processes=6, numbers=8)
            full = with_removals(crew, places)
            self.exactly(least_stray(full) is None, wanted == [])
            self.exactly(counted(full)[1] > 0, wanted is None)
            self.exactly(fewest_removals(crew), wanted)
        self.exactly(least_stray(crew_of(MANY, *BOUND)), (1, 1, 3, 1))
        self.assertLess(time.process_time() - begin, 10)


class Conventions(Checks):
    def test_by_names(self):
        crew = crew_of(LEVEL, (0, (MAKE,)), (0, TWICE))
        self.exactly(least_stray(crew=crew), least_stray(crew))
        self.exactly(counted(crew=crew), counted(crew))
        self.exactly(fewest_removals(crew=crew), fewest_removals(crew))
        self.assertTrue(with_removals(places=[(1, 1)], crew=crew) == with_removals(crew, ((1, 1),)))

    def test_results_depend_on_the_arguments_alone(self):
        crews = [crew_of(LEVEL, (0, (MAKE,)), (0, TWICE)), crew_of(MANY, *BOUND), crew_of(EDGE, (0, TWICE))]
        first = [(least_stray(crew), counted(crew), fewest_removals(crew)) for crew in crews]
        again = [(least_stray(crew), counted(crew), fewest_removals(crew)) for crew in reversed(crews)]
        self.exactly(again[::-1], first)

    def test_the_system_may_go_on(self):
        system = System.played(support.calls_of(LEVEL))
        crew = Crew(system, (0, (MAKE,)), (0, TWICE))
        first = least_stray(crew), counted(crew), fewest_removals(crew)
        system.end(0)
        self.exactly((least_stray(crew), counted(crew), fewest_removals(crew)), first)


if __name__ == "__main__":
    unittest.main()
