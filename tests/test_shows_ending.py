"""Point [16]: which rows of calls are endings."""

import random
import unittest

import endings
import support
import worlds
from waitnumbers.plans import ending, shows_ending
from waitnumbers.system import System

# The set 0 with the labels 7 and 8; the number of 7 means another source by now.
LEFT = (
    "new_set 0; new_source 0; add 0 0 1 7 level; copy 0 1 2; close 0 1; new_source 0; "
    "add 0 0 1 8 edge; add 0 0 2 6 once; arrive 0 2 3; "
)
TOLD = "fork 0; copy 1 2 1; remove 1 0 1; end 1"
PLAIN = "new_set 0; new_source 0; add 0 0 1 7 level; new_source 0; add 0 0 2 8 once; arrive 0 1 1; "


class Shown(support.Case):
    def tell(self, start, row, wanted, label=7, processes=4, numbers=8):
        """Whether it is an ending, as the second system says too."""
        calls = support.calls_of(start)
        system = System.played(calls, processes=processes, numbers=numbers)
        row = support.calls_of(row) if isinstance(row, str) else row
        before = support.shown(system)
        twin = system.twin()
        self.assertEqual(endings.is_ending((processes, numbers), calls, (0, 0), label, row), wanted)
        self.exactly(shows_ending(system, (0, 0), label, row), wanted)
        self.exactly(shows_ending(system, (0, 0), label, tuple(row)), wanted)
        self.assertEqual(support.shown(system), before)
        self.assertTrue(system == twin)

    def test_told_ones(self):
        self.tell(LEFT, TOLD, True)
        self.tell(LEFT, TOLD, False, label=8)
        self.tell(PLAIN, "remove 0 0 1", True)
        self.tell(PLAIN, "remove 0 0 2", False)
        self.tell(PLAIN, "remove 0 0 2", True, label=8)

    def test_no_calls(self):
        self.tell(PLAIN, "", False)
        self.tell(LEFT, [], False)

    def test_longer_ones(self):
        self.tell(LEFT, "copy 0 1 3; copy 0 2 1; remove 0 0 1; copy 0 3 1; close 0 3", True)
        self.tell(PLAIN, "fork 0; remove 1 0 1; end 1", True)
        self.tell(PLAIN, "fork 0; fork 1; remove 2 0 1; end 1; end 2", True)

    def test_with_looks(self):
        self.tell(LEFT, "numbers 0; fork 0; units 0 2; copy 1 2 1; same 0 1 1 1; remove 1 0 1; end 1; numbers 0", True)
        self.tell(PLAIN, "same 0 1 0 2; remove 0 0 1; same 0 0 0 0; units 0 2", True)

    def test_with_detours_that_are_undone(self):
        self.tell(PLAIN, "new_source 0; remove 0 0 1; close 0 3", True)
        self.tell(PLAIN, "new_set 0; add 0 3 1 7 edge; remove 0 0 1; close 0 3", True)
        self.tell(PLAIN, "new_source 0; add 0 0 3 5 level; arrive 0 3 4; remove 0 0 1; close 0 3", True)
        self.tell(PLAIN, "copy 0 1 5; close 0 1; copy 0 5 1; remove 0 0 1; close 0 5", True)
        self.tell(PLAIN, "add 0 0 2 5 level; remove 0 0 1", False)
        self.tell(PLAIN, "copy 0 1 3; add 0 0 3 5 level; remove 0 0 3; close 0 3; remove 0 0 1", True)
        self.tell(PLAIN, "arrive 0 1 4; read 0 1 4; remove 0 0 1", True)
        self.tell(PLAIN, "fork 0; end 1; fork 0; end 1; remove 0 0 1", True)
        self.tell(PLAIN, "change 0 0 1 edge; wait 0 0 1; remove 0 0 1", True)

    def test_what_is_not_undone(self):
        for more in (
            "new_source 0", "copy 0 1 3", "fork 0", "arrive 0 1 1", "read 0 1 1", "finish 0 1", "finish 0 2",
            "arrive 0 2 1", "change 0 0 2 edge", "close 0 2", "copy 0 1 2", "copy 0 0 5", "new_set 0",
            "arrive 0 2 1; read 0 2 -",
        ):
            self.tell(PLAIN, more + "; remove 0 0 1", False)
            self.tell(PLAIN, "remove 0 0 1; " + more, False)

    def test_the_queue_is_as_before(self):
        start = PLAIN + "arrive 0 2 1; copy 0 2 3; add 0 0 3 9 level; "
        self.exactly(support.system_of(start).row_of(0, 0), [7, 8, 9])
        self.tell(start, "remove 0 0 1", True)
        self.tell(start, "remove 0 0 1; wait 0 0 2", False)
        self.tell(start, "wait 0 0 1; remove 0 0 1", True)
        self.tell(start, "change 0 0 2 once; remove 0 0 1", True)

    def test_the_order_of_adding_is_as_before(self):
        start = "new_set 0; new_source 0; add 0 0 1 7 level; copy 0 1 2; add 0 0 2 8 edge; "
        start += "copy 0 1 3; add 0 0 3 9 edge; "
        self.tell(start, "remove 0 0 1; remove 0 0 2; add 0 0 2 8 edge", False)
        self.tell(start, "remove 0 0 2; remove 0 0 3; add 0 0 2 8 edge; add 0 0 3 9 edge; remove 0 0 1", True)
        self.tell(start, "remove 0 0 1; remove 0 0 3; add 0 0 3 9 once", False)
        self.tell(start, "remove 0 0 1; remove 0 0 3; add 0 0 3 5 edge", False)

    def test_another_registration_ends_too(self):
        self.tell(PLAIN, "remove 0 0 1; remove 0 0 2", False)
        self.tell(PLAIN, "remove 0 0 2; remove 0 0 1", False)
        self.tell(LEFT, "copy 0 1 3; copy 0 2 1; remove 0 0 1; copy 0 3 1; close 0 3; remove 0 0 2", False)
        # The other source ends by the copy, and with it the label 8.
        self.tell(LEFT, "copy 0 2 1; remove 0 0 1; close 0 1", False)
        self.tell(LEFT, "close 0 1; copy 0 2 1; remove 0 0 1; new_source 0; add 0 0 1 8 edge", False)

    def test_the_registration_is_added_again(self):
        self.tell(PLAIN, "remove 0 0 1; add 0 0 1 7 level", False)
        self.tell(PLAIN, "remove 0 0 1; add 0 0 1 9 level", False)
        self.tell(PLAIN, "remove 0 0 1; add 0 0 1 7 level; remove 0 0 1", True)

    def test_a_thing_made_anew_in_the_place_of_an_old_one(self):
        start = "new_set 0; new_source 0; add 0 0 1 7 level; new_source 0; "
        self.tell(start, "remove 0 0 1; close 0 2; new_source 0", False)
        self.tell(start, "close 0 1; new_source 0", False)
        self.tell(start, "remove 0 0 1; close 0 1; new_source 0", False)
        self.tell(start, "close 0 0; new_set 0", False)
        # The old thing is as good as before only if it did not end.
        self.tell(start, "remove 0 0 1; copy 0 2 3; close 0 2; copy 0 3 2; close 0 3", True)
        self.tell(start, "remove 0 0 1; copy 0 2 3; close 0 2; new_source 0; close 0 3", False)
        two = "new_set 0; new_source 0; add 0 0 1 7 level; copy 0 1 2; copy 0 0 1; new_set 0; "
        self.tell(two, "copy 0 2 1; remove 0 0 1; copy 0 0 1", True)
        self.tell(two, "copy 0 2 1; remove 0 0 1; copy 0 3 1", False)

    def test_closing_is_no_ending(self):
        self.tell(PLAIN, "close 0 1", False)
        self.tell(PLAIN, "close 0 0", False)
        self.tell(PLAIN, "end 0", False)

    def test_with_an_error(self):
        for wrong in (
            "close 0 7", "remove 0 0 0", "remove 0 0 5", "add 0 0 1 7 level", "add 0 0 1 1000000 level", "copy 0 1 8",
            "arrive 0 0 1", "arrive 0 1 0", "read 0 1 0", "wait 0 1 1", "wait 0 0 0", "end 3", "numbers 3", "units 0 0",
            "same 0 1 3 1", "same 0 1 0 7", "fork 3", "new_source 1",
        ):
            self.tell(PLAIN, wrong + "; remove 0 0 1", False)
            self.tell(PLAIN, "remove 0 0 1; " + wrong, False)
        self.tell(PLAIN, "remove 0 0 1; remove 0 0 1", False)
        start = "new_set 0; new_source 0; add 0 0 1 7 level; "
        self.tell(start + "fork 0", "fork 0; end 2; remove 0 0 1", False, processes=2)
        self.tell(start + "new_set 0", "new_set 0; remove 0 0 1", False, numbers=3)

    def test_of_another_process(self):
        start = PLAIN + "fork 0; fork 0; "
        self.tell(start, "remove 0 0 1", True)
        self.tell(start, "remove 2 0 1", True)
        self.tell(start, "numbers 0; remove 2 0 1", False)
        self.tell(start, "numbers 2; remove 0 0 1", False)
        self.tell(start, "remove 0 0 1; numbers 1", False)
        self.tell(start, "same 0 1 2 1; remove 0 0 1", False)
        self.tell(start, "remove 0 0 1; same 0 0 1 0", False)
        self.tell(start, "same 1 1 1 2; remove 1 0 1; same 1 0 1 0", True)
        self.tell(start, "fork 0; same 0 1 3 1; remove 3 0 1; same 3 0 0 0; end 3", True)
        self.tell(start, "fork 0; remove 1 0 1; end 3", False)
        self.tell(start, "numbers 3; fork 0; remove 3 0 1; end 3", False)

    def test_a_process_that_ended_and_was_forked_again(self):
        self.tell(PLAIN, "fork 0; end 0; remove 1 0 1; fork 1; end 1", True)
        self.tell(PLAIN, "fork 0; end 0; remove 1 0 1", False)
        self.tell(PLAIN, "fork 0; end 1; fork 0; remove 1 0 1; end 1", True)
        self.tell(PLAIN, "fork 0; end 0; fork 1; remove 0 0 1", False)

    def test_another_process_that_ended(self):
        self.tell(PLAIN + "fork 0; ", "end 1; remove 0 0 1; fork 0", False)
        self.tell(PLAIN + "fork 0; ", "fork 0; end 2; remove 0 0 1", True)

    def test_at_most_500_calls(self):
        system = support.system_of(PLAIN)
        looks = [("numbers", 0)] * 499
        self.exactly(shows_ending(system, (0, 0), 7, looks + [("remove", 0, 0, 1)]), True)
        self.exactly(shows_ending(system, (0, 0), 7, looks + [("numbers", 0), ("remove", 0, 0, 1)]), False)

    def test_any_objects(self):
        system = support.system_of(PLAIN)
        told = ("remove", 0, 0, 1)
        twin = system.twin()
        for junk in support.JUNK:
            self.exactly(shows_ending(system, (0, 0), 7, junk), False)
            self.exactly(shows_ending(system, (0, 0), 7, [told, junk]), False)
            self.exactly(shows_ending(system, (0, 0), 7, (junk, told)), False)
            for call in support.PLAIN_CALLS:
                for at in range(1, len(call)):
                    odd = (*call[:at], junk, *call[at + 1:])
                    self.exactly(shows_ending(system, (0, 0), 7, [odd]), False)
                    self.exactly(shows_ending(system, (0, 0), 7, [told, odd]), False)
        for near in (
            told, [list(told)], "remove 0 0 1", ["remove 0 0 1"], [[told]], ((told,),), [told[:3]], [(*told, 1)],
            [("remove", 0, 0, 1, None)], [("Remove", 0, 0, 1)], [("remove", 0, 0, True)], [("remove", False, 0, 1)],
            [("remove", 0, False, 1)], [("remove", 0, 0, "1")], [("forks", 0), told], [("fork",), told],
        ):
            self.exactly(shows_ending(system, (0, 0), 7, near), False)
        self.exactly(shows_ending(system, (0, 0), 7, [told]), True)
        self.exactly(shows_ending(system, (0, 0), 7, (told,)), True)
        self.assertTrue(system == twin)

    def test_true_is_not_1_as_a_process(self):
        system = support.system_of(PLAIN + "fork 0")
        self.exactly(shows_ending(system, (0, 0), 7, [("remove", 1, 0, 1)]), True)
        for row in (
            [("remove", True, 0, 1)],
            [("numbers", 1), ("remove", True, 0, 1)],
            [("remove", 1, 0, 1), ("numbers", True)],
            [("remove", 1, 0, 1), ("same", 1, 0, True, 0)],
            [("remove", 1, 0, True)],
        ):
            self.exactly(shows_ending(system, (0, 0), 7, row), False)

    def test_the_row_is_not_changed(self):
        system = support.system_of(LEFT)
        row = support.calls_of(TOLD)
        wanted = repr(row)
        shows_ending(system, (0, 0), 7, row)
        self.assertEqual(repr(row), wanted)


class Drawn(support.Case):
    """Told endings, and rows that are made of them, against the second system."""

    def vary(self, grower, row):
        row = list(row)
        for change in range(grower.random.randrange(4)):
            at = grower.random.randrange(len(row) + 1)
            how = grower.random.random()
            if how < 0.3:
                p, n = grower.process(), grower.number()
                row[at:at] = grower.random.choice([
                    [("numbers", p)], [("copy", p, n, None)], [("fork", p)], [("new_source", p)],
                    [("new_source", p), ("close", p, n)], [("arrive", p, n, 1), ("read", p, n, 1)],
                    [("fork", p), ("end", grower.process())], [("copy", p, n, grower.number()), ("close", p, n)],
                ])
            elif how < 0.6:
                row.insert(at, grower.call())
            elif row and at < len(row):
                if how < 0.8:
                    row[at] = grower.reworded(row[at])
                else:
                    del row[at]
        return row

    def test_against_the_second_system(self):
        counts = {True: 0, False: 0}
        for seed in range(250):
            processes, numbers = [(2, 3), (3, 4), (4, 8), (2, 5)][seed % 4]
            grower = worlds.grower(seed, processes, numbers)
            start = support.calls_of("new_set 0; new_source 0; add 0 0 1 7 level; copy 0 1 2; add 0 0 2 8 edge")
            calls = grower.grown(start, grower.random.randrange(5, 30))
            system = System.played(calls, **grower.limits())
            for set_name, label, number, source, word, armed in system.registrations():
                told = ending(system, set_name, label) or [("remove", 0, 0, number)]
                for attempt in range(12):
                    row = self.vary(grower, told)
                    wanted = endings.is_ending((processes, numbers), calls, set_name, label, row)
                    self.exactly(shows_ending(system, set_name, label, row), wanted)
                    counts[wanted] += 1
        self.assertGreater(min(counts.values()), 200, counts)

    def test_no_shorter_row_shows_one(self):
        """A call less, and it is none, since the told ones are shortest."""
        for seed in range(100):
            chosen = random.Random(seed)
            grower = worlds.grower(seed, 3, 4)
            calls = grower.grown(support.calls_of("new_set 0; new_source 0; add 0 0 1 7 level"), 20)
            system = System.played(calls, **grower.limits())
            for set_name, label, *rest in system.registrations():
                told = ending(system, set_name, label)
                if told is not None:
                    at = chosen.randrange(len(told))
                    self.exactly(shows_ending(system, set_name, label, told[:at] + told[at + 1:]), False)


if __name__ == "__main__":
    unittest.main()
