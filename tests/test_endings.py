"""Point [16]: the shortest endings, in each of the cases that the document names."""

import unittest

import endings
import shortest
import support
import worlds
from waitnumbers.calls import answers, read_calls, show_calls
from waitnumbers.plans import ending, shows_ending
from waitnumbers.system import System

# The set 0, the source 1, the label 7 with the number 1; the source is at 2 by now.
AWAY = "new_set 0; new_source 0; add 0 0 1 7 level; copy 0 1 2; close 0 1; "


class Endings(support.Case):
    def walk(self, calls, limits, set_name, label, wanted):
        """The told ending has so many calls; each of them is done and all is as before."""
        system = System.played(calls, processes=limits[0], numbers=limits[1])
        before = support.shown(system)
        row = ending(system, set_name, label)
        self.assertEqual(support.shown(system), before)
        if wanted is None:
            self.exactly(row, None)
            return None
        self.assertIs(type(row), list)
        self.assertEqual(len(row), wanted, row)
        self.exactly(read_calls(show_calls(row)), row)
        self.assertTrue(endings.is_ending(limits, calls, set_name, label, row), row)
        self.exactly(shows_ending(system, set_name, label, row), True)
        behind = system.twin()
        for answer in answers(behind, row):
            self.assertNotIsInstance(answer, str)
        self.assertEqual(self.all_but(behind, None), self.all_but(system, (set_name, label)))
        self.assertEqual(support.shown(system), before)
        return row

    def all_but(self, system, left_out):
        """All that a system shows, without one registration."""
        kept = [each for each in system.registrations() if each[:2] != left_out]
        tables = []
        for process in system.alive():
            for number, kind in system.numbers(process):
                name = system.name(process, number)
                if kind == "source":
                    more = system.units(process, number)
                else:
                    more = [label for label in system.row_of(process, number) if (name, label) != left_out]
                tables.append((process, number, kind, name, more))
        return repr((system.limits, system.alive(), tables, kept))

    def tell(self, text, wanted, processes=4, numbers=8, label=7):
        support.system_of(text, processes, numbers)
        calls = support.calls_of(text)
        system = System.played(calls, processes=processes, numbers=numbers)
        set_name = [kept[0] for kept in system.registrations() if kept[1] == label][0]
        return self.walk(calls, (processes, numbers), set_name, label, wanted)


class OneCall(Endings):
    START = "new_set 0; new_source 0; add 0 0 1 7 level; "

    def test_the_number_means_the_source(self):
        self.exactly(self.tell(self.START, 1), [("remove", 0, 0, 1)])
        self.exactly(self.tell(self.START + "arrive 0 1 3; finish 0 1", 1), [("remove", 0, 0, 1)])
        self.exactly(self.tell(self.START + "copy 0 1 2", 1), [("remove", 0, 0, 1)])

    def test_it_means_the_source_again(self):
        self.tell(AWAY + "new_source 0; copy 0 2 1", 1)

    def test_the_set_has_another_number_by_now(self):
        self.exactly(self.tell(self.START + "copy 0 0 5; close 0 0", 1), [("remove", 0, 5, 1)])

    def test_in_another_process_alone(self):
        self.exactly(self.tell(self.START + "fork 0; close 0 1", 1), [("remove", 1, 0, 1)])
        self.exactly(self.tell(self.START + "fork 0; close 0 0", 1), [("remove", 1, 0, 1)])
        self.exactly(self.tell(self.START + "fork 0; end 0", 1), [("remove", 1, 0, 1)])
        self.exactly(self.tell(self.START + "fork 0; copy 0 1 2; close 0 1; new_source 0", 1), [("remove", 1, 0, 1)])

    def test_in_full_tables(self):
        self.tell("new_set 0; new_source 0; add 0 0 1 7 edge; new_source 0; fork 0", 1, 2, 3)


class ThreeCalls(Endings):
    def test_the_number_is_free(self):
        self.exactly(self.tell(AWAY, 3), [("copy", 0, 2, 1), ("remove", 0, 0, 1), ("close", 0, 1)])

    def test_the_number_means_another_source_with_another_number(self):
        self.exactly(
            self.tell(AWAY + "new_source 0; copy 0 1 3", 3),
            [("copy", 0, 2, 1), ("remove", 0, 0, 1), ("copy", 0, 3, 1)],
        )

    def test_the_other_number_is_lower(self):
        text = "new_set 0; new_source 0; new_source 0; copy 0 1 3; add 0 0 3 7 level; copy 0 2 3; arrive 0 2 4"
        self.exactly(self.tell(text, 3), [("copy", 0, 1, 3), ("remove", 0, 0, 3), ("copy", 0, 2, 3)])

    def test_the_number_means_another_set_with_another_number(self):
        self.tell(AWAY + "new_set 0; copy 0 1 3; add 0 3 2 9 edge", 3)

    def test_the_number_means_the_set_which_has_another_number(self):
        self.exactly(
            self.tell(AWAY + "copy 0 0 1", 3),
            [("copy", 0, 2, 1), ("remove", 0, 0, 1), ("copy", 0, 0, 1)],
        )
        self.exactly(
            self.tell(AWAY + "copy 0 0 1; copy 0 0 5; close 0 0", 3),
            [("copy", 0, 2, 1), ("remove", 0, 5, 1), ("copy", 0, 5, 1)],
        )

    def test_the_source_has_several_numbers(self):
        self.tell(AWAY + "copy 0 2 3; copy 0 2 4", 3)

    def test_full_tables_and_no_free_process(self):
        text = (
            "new_set 0; new_source 0; copy 0 1 2; add 0 0 1 7 level; new_source 0; "
            "copy 0 3 1; new_set 0; fork 0"
        )
        self.tell(text, 3, 2, 5)
        self.tell("new_set 0; new_source 0; add 0 0 1 7 level; copy 0 1 2; copy 0 0 1; fork 0", 3, 2, 3)

    def test_the_other_number_in_another_process_does_not_count(self):
        # The thing at the number 1 has other numbers in the process 1, none in the process 0.
        self.tell(AWAY + "new_source 0; fork 0; copy 1 1 5; close 1 0", 4)


class ByFork(Endings):
    def test_four_calls(self):
        self.exactly(
            self.tell(AWAY + "new_source 0", 4),
            [("fork", 0), ("copy", 1, 2, 1), ("remove", 1, 0, 1), ("end", 1)],
        )

    def test_the_row_of_the_document(self):
        text = "new_set 0; new_source 0; add 0 0 1 7 level; copy 0 1 -; close 0 1; arrive 0 2 1; wait 0 0 1; "
        text += "new_source 0"
        told = [("fork", 0), ("copy", 1, 2, 1), ("remove", 1, 0, 1), ("end", 1)]
        self.exactly(self.tell(text, 4), told)

    def test_another_set_at_the_number(self):
        self.tell(AWAY + "new_set 0; add 0 1 2 7 edge; arrive 0 2 1; close 0 1; new_set 0", 4)

    def test_the_lowest_free_process(self):
        text = AWAY + "new_source 0; fork 0; fork 0; end 1; close 2 0"
        self.exactly(
            self.tell(text, 4), [("fork", 0), ("copy", 1, 2, 1), ("remove", 1, 0, 1), ("end", 1)],
        )
        text = AWAY + "new_source 0; fork 0; close 0 0"
        self.exactly(
            self.tell(text, 4), [("fork", 1), ("copy", 2, 2, 1), ("remove", 2, 0, 1), ("end", 2)],
        )
        text = AWAY + "new_source 0; fork 0; end 0"
        self.exactly(
            self.tell(text, 4), [("fork", 1), ("copy", 0, 2, 1), ("remove", 0, 0, 1), ("end", 0)],
        )

    def test_the_things_of_the_process_last_in_it(self):
        """Numbers of the forked process that are closed end no thing."""
        text = AWAY + "new_source 0; arrive 0 1 2; finish 0 1"
        self.tell(text, 4, 2, 3)
        self.tell(text + "; new_set 0; add 0 3 1 7 edge; wait 0 3 1; add 0 0 1 9 level; arrive 0 2 5", 4, 2, 4)

    def test_the_set_at_its_only_number(self):
        # The set is at the number 1 alone, which the registration has.
        text = AWAY + "copy 0 0 1; close 0 0"
        row = self.tell(text, 5)
        self.assertEqual([call[0] for call in row], ["fork", "copy", "copy", "remove", "end"])

    def test_the_set_at_its_only_number_in_a_full_table(self):
        text = AWAY + "copy 0 0 1; close 0 0; new_source 0; arrive 0 0 6"
        row = self.tell(text, 5, 2, 3)
        self.exactly(
            row, [("fork", 0), ("copy", 1, 1, 0), ("copy", 1, 2, 1), ("remove", 1, 0, 1), ("end", 1)],
        )
        self.tell(text.replace("new_source 0; arrive 0 0 6", "new_set 0"), 5, 2, 3)

    def test_the_third_number_is_not_the_one_of_the_source(self):
        # The source is at the lowest number, so that another one must be taken.
        text = "new_set 0; new_source 0; copy 0 1 2; add 0 0 2 7 level; copy 0 0 2; copy 0 1 0; close 0 1; new_set 0"
        row = self.tell(text, 5, 2, 3)
        self.exactly(
            row, [("fork", 0), ("copy", 1, 2, 1), ("copy", 1, 0, 2), ("remove", 1, 1, 2), ("end", 1)],
        )

    def test_no_spare_number_is_needed(self):
        text = AWAY + "new_source 0; new_source 0; new_source 0; new_source 0; new_source 0; new_source 0"
        self.tell(text, 4)


class BySpare(Endings):
    """No process number is free, and what the registration's number means is there alone."""

    def test_a_free_number(self):
        # The process 1 has neither the set nor the source.
        text = AWAY + "new_source 0; fork 0; close 1 0; close 1 2"
        self.exactly(self.tell(text, 5, 2, 4), [
            ("copy", 0, 1, 3), ("copy", 0, 2, 1), ("remove", 0, 0, 1), ("copy", 0, 3, 1), ("close", 0, 3),
        ])

    def test_a_free_number_while_the_set_is_at_the_number(self):
        text = AWAY + "copy 0 0 1; close 0 0; fork 0; close 1 2; new_source 0"
        self.exactly(self.tell(text, 5, 2, 4), [
            ("copy", 0, 1, 3), ("copy", 0, 2, 1), ("remove", 0, 3, 1), ("copy", 0, 3, 1), ("close", 0, 3),
        ])
        self.exactly(self.tell(text[:text.rindex(";")], 5, 2, 3), [
            ("copy", 0, 1, 0), ("copy", 0, 2, 1), ("remove", 0, 0, 1), ("copy", 0, 0, 1), ("close", 0, 0),
        ])

    def test_two_numbers_of_another_thing(self):
        text = AWAY + "new_source 0; new_source 0; copy 0 3 4; arrive 0 3 2; add 0 0 4 8 edge; fork 0; close 1 0"
        row = self.tell(text, 5, 2, 5)
        self.assertEqual([call[0] for call in row], ["copy", "copy", "remove", "copy", "copy"])

    def test_two_numbers_of_the_source(self):
        text = AWAY + "new_source 0; copy 0 2 3; fork 0; close 1 0"
        row = self.tell(text, 5, 2, 4)
        self.assertEqual([call[0] for call in row], ["copy", "copy", "remove", "copy", "copy"])

    def test_two_numbers_of_the_set(self):
        text = AWAY + "new_source 0; copy 0 0 3; fork 0; close 1 2"
        row = self.tell(text, 5, 2, 4)
        self.assertEqual([call[0] for call in row], ["copy", "copy", "remove", "copy", "copy"])

    def test_two_numbers_of_the_source_while_the_set_is_at_the_number(self):
        text = AWAY + "copy 0 0 1; copy 0 2 0; fork 0; copy 1 0 1"
        self.tell(text, 5, 2, 3)

    def test_two_numbers_of_another_set(self):
        text = AWAY + "new_source 0; new_set 0; copy 0 3 4; add 0 4 2 7 level; arrive 0 2 1; fork 0; close 1 0"
        self.tell(text, 5, 2, 5)

    def test_none(self):
        full = AWAY + "new_source 0; fork 0; close 1 0"
        self.tell(full, None, 2, 3)
        self.tell(AWAY + "new_source 0; new_source 0; new_set 0; fork 0; close 1 0", None, 2, 5)
        # The set itself at the number, and the rest of the table full.
        self.tell(AWAY + "copy 0 0 1; close 0 0; new_source 0; fork 0; close 1 2", None, 2, 3)
        # The same in both processes: full, and each thing with one number.
        self.tell(AWAY + "new_source 0; fork 0", None, 2, 3)

    def test_the_numbers_of_another_process_do_not_help(self):
        # The process 1 has free numbers and no number of the set.
        self.tell(AWAY + "new_source 0; fork 0; close 1 0; close 1 1", None, 2, 3)

    def test_a_process_number_that_is_free_again(self):
        self.tell(AWAY + "new_source 0; fork 0; close 1 0; end 1", 4, 2, 3)
        self.tell(AWAY + "new_source 0; fork 0; close 1 0", 4, 3, 3)


class SeveralProcesses(Endings):
    def test_the_shortest_of_all_counts(self):
        # The process 0 would need four calls, the process 1 three, the process 2 one.
        text = AWAY + "new_source 0; fork 0; fork 0; close 1 1; copy 2 2 1"
        self.exactly(self.tell(text, 1), [("remove", 2, 0, 1)])
        self.exactly(
            self.tell(text + "; end 2", 3), [("copy", 1, 2, 1), ("remove", 1, 0, 1), ("close", 1, 1)],
        )
        self.exactly(
            self.tell(text + "; end 2; end 1", 4),
            [("fork", 0), ("copy", 1, 2, 1), ("remove", 1, 0, 1), ("end", 1)],
        )

    def test_the_lower_process_has_the_shorter_way(self):
        text = AWAY + "fork 0; new_source 1"
        self.exactly(self.tell(text, 3), [("copy", 0, 2, 1), ("remove", 0, 0, 1), ("close", 0, 1)])

    def test_four_beside_five(self):
        # The set is at the number 1 alone in the process 0, another source is in the process 1.
        text = AWAY + "copy 0 0 3; new_source 0; fork 0; copy 0 0 1; close 0 0; close 0 3"
        self.exactly(
            self.tell(text, 4), [("fork", 1), ("copy", 2, 2, 1), ("remove", 2, 0, 1), ("end", 2)],
        )
        self.tell(text, 5, 2)

    def test_five_beside_none(self):
        # The process 0 has a free number; the table of the process 1 is full.
        text = AWAY + "new_source 0; fork 0; new_source 1"
        self.exactly(self.tell(text, 5, 2, 4), [
            ("copy", 0, 1, 3), ("copy", 0, 2, 1), ("remove", 0, 0, 1), ("copy", 0, 3, 1), ("close", 0, 3),
        ])
        self.tell(text + "; new_source 0", None, 2, 4)

    def test_none_where_no_process_has_both(self):
        sealed = "new_set 0; new_source 0; add 0 0 1 7 level; fork 0; close 0 0; close 1 1"
        self.tell(sealed, None)
        self.tell(sealed + "; arrive 0 1 1; fork 0; fork 1; new_source 3", None)

    def test_a_process_that_has_both_beside_some_that_have_not(self):
        text = "new_set 0; new_source 0; add 0 0 1 7 level; fork 0; fork 0; close 0 0; close 1 1; copy 2 1 5; close 2 1"
        self.exactly(self.tell(text, 3), [("copy", 2, 5, 1), ("remove", 2, 0, 1), ("close", 2, 1)])


class EverythingElse(Endings):
    BUSY = (
        "new_set 0; new_source 0; copy 0 1 2; add 0 0 2 5 once; add 0 0 1 7 level; copy 0 1 3; add 0 0 3 6 edge; "
        "new_set 0; add 0 4 1 7 edge; new_source 0; add 0 0 5 9 once; arrive 0 5 3; arrive 0 1 2; wait 0 0 2; "
    )

    def test_other_registrations_orders_units_and_queues(self):
        for label in (5, 6, 7, 9):
            for more, wanted in (
                ("", 1),
                ("copy 0 1 6; close 0 1; close 0 2; close 0 3; copy 0 5 7; close 0 5", 3),
                ("copy 0 1 6; copy 0 0 1; copy 0 0 2; copy 0 0 3; copy 0 5 7; copy 0 4 5", 3),
            ):
                system = support.system_of(self.BUSY + more)
                calls = support.calls_of(self.BUSY + more)
                self.assertIn(label, [kept[1] for kept in system.registrations()])
                self.walk(calls, (4, 8), (0, 0), label, wanted)
        self.walk(support.calls_of(self.BUSY), (4, 8), (0, 4), 7, 1)

    def test_a_pending_one_leaves_its_queue_alone(self):
        system = support.system_of(self.BUSY)
        queue = system.row_of(0, 0)
        for label in queue:
            answers(twin := system.twin(), ending(system, (0, 0), label))
            self.exactly(twin.row_of(0, 0), [other for other in queue if other != label])

    def test_one_number_with_two_sources(self):
        text = "new_set 0; new_source 0; add 0 0 1 7 level; fork 0; close 0 1; new_source 0; add 0 0 1 8 level"
        self.exactly(self.tell(text, 1, label=7), [("remove", 1, 0, 1)])
        self.exactly(self.tell(text, 1, label=8), [("remove", 0, 0, 1)])

    def test_the_row_is_the_callers_own(self):
        system = support.system_of(AWAY)
        got = ending(system, (0, 0), 7)
        wanted = repr(got)
        got.append(("fork", 0))
        got.reverse()
        self.assertEqual(repr(ending(system, (0, 0), 7)), wanted)


class Searched(Endings):
    """Against a search of all rows of calls."""

    def compare(self, calls, limits, counts):
        system = System.played(calls, processes=limits[0], numbers=limits[1])
        tables = shortest.tables_of(system)
        for set_name, label, number, source, word, armed in system.registrations():
            row = ending(system, set_name, label)
            wanted = None if row is None else len(row)
            # Without a free process number all rows are searched.
            most = 4 + 30 * (None not in tables) if row is None else wanted
            self.exactly(shortest.fewest_calls(tables, set_name, source, number, most), wanted)
            self.walk(calls, limits, set_name, label, wanted)
            counts[wanted] = counts.get(wanted, 0) + 1

    def test_small_systems_with_one_process(self):
        counts = {}
        for start in worlds.STARTS:
            found = worlds.small_systems(start, 2, 3, 1000, forks=False)
            # All of them: tables with the set, the source, and nothing, one of them again or a new thing.
            self.assertEqual(len(found), 24)
            for calls in found:
                self.compare(calls, (2, 3), counts)
        self.assertEqual(sorted(counts), [1, 3, 4, 5])
        self.assertGreater(min(counts.values()), 5, counts)

    def test_small_systems_with_two_processes(self):
        counts = {}
        for start in worlds.STARTS:
            for calls in worlds.small_systems(start, 2, 3, 2500)[::20]:
                self.compare(calls, (2, 3), counts)
        self.assertEqual(sorted(counts, key=str), [1, 3, 5, None])
        self.assertGreater(counts[5], 5, counts)
        self.assertGreater(counts[None], 5, counts)

    def test_drawn_systems(self):
        counts = {}
        for seed in range(150):
            processes, numbers = [(2, 3), (3, 3), (2, 4)][seed % 3]
            grower = worlds.grower(seed, processes, numbers)
            start = support.calls_of("new_set 0; new_source 0; add 0 0 1 7 level")
            self.compare(grower.grown(start, 30), (processes, numbers), counts)
        self.assertGreater(sum(counts.values()), 100, counts)


if __name__ == "__main__":
    unittest.main()
