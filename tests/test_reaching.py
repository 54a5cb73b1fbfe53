"""Points [14], [15] and [3]: reached and sealed registrations, and the fewest closings."""

import itertools
import unittest

import support
import worlds
from waitnumbers.reaching import closings, is_reached, is_sealed
from waitnumbers.system import System

# The set 0, the source 1, and the label 7 with the number 1.
START = "new_set 0; new_source 0; add 0 0 1 7 level; "


def ended(system, cells):
    """A twin in which these numbers are closed."""
    twin = system.twin()
    for process, number in cells:
        twin.close(process, number)
    return twin


class Reached(support.Case):
    def tell(self, text, reached, sealed, label=7):
        system = support.system_of(START + text)
        before = support.shown(system)
        [set_name] = [kept[0] for kept in system.registrations() if kept[1] == label]
        self.exactly(is_reached(system, set_name, label), reached)
        self.exactly(is_sealed(system, set_name, label), sealed)
        self.assertEqual(support.shown(system), before)

    def test_a_new_one(self):
        self.tell("", True, False)

    def test_its_number_is_closed(self):
        self.tell("copy 0 1 2; close 0 1", False, False)

    def test_its_number_means_another_source(self):
        self.tell("copy 0 1 2; close 0 1; new_source 0", False, False)

    def test_its_number_means_the_set(self):
        self.tell("copy 0 1 2; copy 0 0 1", False, False)

    def test_its_number_means_another_set(self):
        self.tell("copy 0 1 2; close 0 1; new_set 0", False, False)

    def test_its_number_means_its_source_again(self):
        self.tell("copy 0 1 2; close 0 1; new_source 0; copy 0 2 1", True, False)
        self.tell("copy 0 1 2; close 0 1; copy 0 2 1; close 0 2", True, False)

    def test_in_a_forked_process_alone(self):
        self.tell("fork 0; close 0 1", True, False)
        self.tell("fork 0; copy 0 1 2; close 0 1", True, False)
        self.tell("fork 0; copy 0 0 1", True, False)

    def test_in_the_forking_process_alone(self):
        self.tell("fork 0; close 1 1", True, False)
        self.tell("fork 0; close 1 0", True, False)
        self.tell("fork 0; end 1", True, False)

    def test_in_no_process_though_one_has_both(self):
        self.tell("fork 0; close 0 1; copy 1 1 5; close 1 1; new_source 1", False, False)
        self.tell("fork 0; close 0 0; copy 1 1 5; copy 1 0 1", False, False)

    def test_the_number_in_one_process_and_the_set_in_another(self):
        self.tell("fork 0; close 0 1; copy 1 1 2; close 1 0", False, True)
        # The number means the source in process 1, which has no number of the set;
        # process 0 has both, but the source has another number there.
        self.tell("fork 0; close 1 0; copy 0 1 2; close 0 1", False, False)

    def test_the_process_that_made_it_has_ended(self):
        self.tell("fork 0; end 0", True, False)
        self.tell("fork 0; copy 1 1 2; close 1 1; end 0", False, False)

    def test_sealed(self):
        self.tell("fork 0; close 0 0; close 1 1", False, True)
        self.tell("fork 0; close 0 1; close 1 0", False, True)
        self.tell("fork 0; fork 0; close 0 0; close 1 1; close 2 1", False, True)
        self.tell("fork 0; fork 0; close 0 0; close 1 1", True, False)
        self.tell("copy 0 1 4; fork 0; close 0 0; close 1 1", False, False)
        self.tell("copy 0 1 4; fork 0; close 0 0; close 1 1; close 1 4", False, True)

    def test_another_source_at_its_number_in_a_process_with_the_set(self):
        self.tell("fork 0; close 0 0; close 1 1; new_source 1", False, True)

    def test_each_registration_by_itself(self):
        system = support.system_of(
            START + "new_source 0; add 0 0 2 8 edge; new_set 0; add 0 3 1 7 once; copy 0 1 5; close 0 1"
        )
        self.exactly([is_reached(system, (0, 0), label) for label in (7, 8)], [False, True])
        self.exactly(is_reached(system, (0, 3), 7), False)
        system.fork(0)
        system.close(0, 2)
        system.close(1, 0)
        self.exactly([is_reached(system, (0, 0), label) for label in (7, 8)], [False, False])
        self.exactly([is_sealed(system, (0, 0), label) for label in (7, 8)], [False, True])
        self.exactly(is_sealed(system, (0, 3), 7), False)

    def test_two_numbers_of_one_source(self):
        system = support.system_of(START + "copy 0 1 2; add 0 0 2 8 level; close 0 1")
        self.exactly([is_reached(system, (0, 0), label) for label in (7, 8)], [False, True])
        self.exactly([is_sealed(system, (0, 0), label) for label in (7, 8)], [False, False])

    def test_by_the_tables_of_all_small_systems(self):
        for calls in worlds.small_systems(worlds.STARTS[1], 2, 3, 1500):
            system = System.played(calls, processes=2, numbers=3)
            [(set_name, label, number, source, word, armed)] = system.registrations()
            reached, both = False, False
            for p in system.alive():
                meant = {n: system.name(p, n) for n, kind in system.numbers(p)}
                if set_name in meant.values():
                    reached = reached or meant.get(number) == source
                    both = both or source in meant.values()
            self.exactly(is_reached(system, set_name, label), reached)
            self.exactly(is_sealed(system, set_name, label), not both)


class SealedForEver(support.Case):
    SEALED = START + "new_source 0; add 0 0 2 8 level; arrive 0 1 1; fork 0; close 0 0; close 1 1"

    def sealed_in(self, system):
        return sorted(
            (label, system.units(*source)[0]) for set_name, label, number, source, word, armed
            in system.registrations() if is_sealed(system, set_name, label)
        )

    def test_forks_and_copies_do_not_open_it(self):
        system = support.system_of(self.SEALED)
        self.exactly(self.sealed_in(system), [(7, 1)])
        for call in support.calls_of("fork 0; fork 1; copy 0 1 0; copy 1 0 1; new_source 1; copy 2 1 2; new_set 0"):
            self.assertNotIsInstance(system.answer(call), str)
            self.exactly(self.sealed_in(system), [(7, 1)])

    def test_no_number_of_any_process_changes_or_removes_it(self):
        system = support.system_of(self.SEALED + "; fork 0; fork 1; new_source 1; copy 2 1 5")
        for process in range(4):
            for set_number in range(8):
                for number in range(8):
                    for name, more in (("change", ("edge",)), ("remove", ())):
                        twin = system.twin()
                        twin.answer((name, process, set_number, number, *more))
                        self.exactly(self.sealed_in(twin), [(7, 1)])

    def test_in_drawn_rows(self):
        """What is sealed once is sealed behind each call until it ends."""
        times = 0
        for seed in range(60):
            grower = worlds.grower(seed, 3, 4)
            start = support.calls_of(START + "copy 0 1 2; add 0 0 2 8 edge; new_source 0; add 0 0 3 9 once")
            system = System.played(start + grower.sealing(0), **grower.limits())
            for step in range(60):
                sealed = [kept[1] for kept in system.registrations() if is_sealed(system, kept[0], kept[1])]
                call = grower.call()
                # With one set alone, a label says which registration it is.
                if call[0] == "new_set":
                    continue
                system.answer(call)
                for kept in system.registrations():
                    if kept[1] in sealed:
                        times += 1
                        self.exactly(is_sealed(system, kept[0], kept[1]), True)
        self.assertGreater(times, 500)


class Closings(support.Case):
    def tell(self, text, wanted, label=7):
        system = support.system_of(START + text)
        before = support.shown(system)
        [set_name] = [kept[0] for kept in system.registrations() if kept[1] == label]
        got = closings(system, set_name, label)
        self.exactly(got, wanted)
        self.assertEqual(support.shown(system), before)
        self.fewest(system, set_name, label, got)

    def fewest(self, system, set_name, label, told):
        """Closing them ends the registration; closing fewer of them does not."""
        [kept] = [kept for kept in system.registrations() if kept[:2] == (set_name, label)]
        self.assertEqual(self.still_there(ended(system, told), kept), False)
        for many in range(len(told)):
            for cells in itertools.combinations(told, many):
                self.assertEqual(self.still_there(ended(system, cells), kept), True)

    def still_there(self, system, kept):
        return (kept[1], kept[2]) in [(label, number) for _, label, number, *rest in system.registrations()]

    def test_equally_many(self):
        self.tell("", [(0, 1)])
        self.tell("fork 0", [(0, 1), (1, 1)])
        self.tell("copy 0 0 2; copy 0 1 3", [(0, 1), (0, 3)])

    def test_fewer_of_the_set(self):
        self.tell("copy 0 1 2", [(0, 0)])
        self.tell("fork 0; copy 1 1 7", [(0, 0), (1, 0)])
        self.tell("fork 0; close 0 0", [(1, 0)])

    def test_fewer_of_the_source(self):
        self.tell("copy 0 0 2", [(0, 1)])
        self.tell("fork 0; close 1 1", [(0, 1)])
        self.tell("fork 0; close 0 1; copy 1 0 5", [(1, 1)])

    def test_numbers_in_several_processes_ascend(self):
        self.tell("copy 0 1 5; copy 0 0 2; copy 0 0 3; fork 0; copy 1 1 4; copy 1 0 7; close 1 5; close 0 1; fork 1",
                  [(0, 5), (1, 1), (1, 4), (2, 1), (2, 4)])
        self.tell("copy 0 1 4; copy 0 1 5; copy 0 0 3; fork 0; fork 1; copy 2 0 0; close 2 3; close 1 0",
                  [(0, 0), (0, 3), (1, 3), (2, 0)])

    def test_of_a_sealed_one(self):
        self.tell("fork 0; close 0 0; close 1 1", [(0, 1)])
        self.tell("fork 0; close 0 0; close 1 1; fork 0", [(1, 0)])

    def test_the_number_of_the_registration_does_not_count(self):
        self.tell("copy 0 1 2; close 0 1", [(0, 2)])
        self.tell("copy 0 1 2; close 0 1; new_source 0", [(0, 2)])

    def test_fewest_in_small_systems(self):
        """No fewer numbers at all end it, whatever they mean."""
        for calls in worlds.small_systems(worlds.STARTS[1], 2, 3, 3000)[::12]:
            system = System.played(calls, processes=2, numbers=3)
            [kept] = system.registrations()
            told = closings(system, kept[0], kept[1])
            self.fewest(system, kept[0], kept[1], told)
            cells = [(p, n) for p in system.alive() for n, kind in system.numbers(p)]
            for many in range(len(told)):
                for chosen in itertools.combinations(cells, many):
                    self.assertNotEqual(ended(system, chosen).registrations(), [])

    def test_the_list_is_the_callers_own(self):
        for text in ("", "copy 0 1 2", "copy 0 0 2"):
            system = support.system_of(START + text)
            got = closings(system, (0, 0), 7)
            wanted = repr(got)
            got.append((5, 5))
            got.reverse()
            self.assertEqual(repr(closings(system, (0, 0), 7)), wanted)


if __name__ == "__main__":
    unittest.main()
