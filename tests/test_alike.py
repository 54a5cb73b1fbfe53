"""Points [17] and [18]: each difference that can be told or cannot, and quiet registrations."""

import unittest

import support
import worlds
from pairs import SEAL, START, WORDS, Pairs
from waitnumbers.alike import is_quiet
from waitnumbers.system import System


class CannotBeTold(Pairs):
    def test_equal_systems(self):
        for text in ("", START, START + "add 0 0 1 7 once; add 0 0 2 8 level; arrive 0 1 1; wait 0 0 1", START + SEAL):
            self.pair(support.system_of(text), support.system_of(text), True)
            system = support.system_of(text)
            self.pair(system, system.twin(), True)

    def test_the_same_in_another_way(self):
        """Systems are compared as they are, not by what was done in them."""
        self.pair(
            support.system_of(START + "new_source 0; new_source 0; close 0 3; copy 0 4 3; close 0 4; add 0 0 3 7 edge"),
            support.system_of(
                START + "new_source 0; add 0 0 3 7 level; add 0 0 1 8 level; remove 0 0 1; change 0 0 3 edge"
            ),
            True,
        )

    def test_systems_that_are_over(self):
        systems = [
            support.system_of(text + "end 0", processes, numbers)
            for text in ("", START, START + "add 0 0 1 7 level; arrive 0 1 1; fork 0; end 1; ")
            for processes in (2, 6) for numbers in (3, 8)
        ]
        for one in systems:
            for other in systems:
                self.pair(one, other, True)

    def test_the_order_of_adding_of_different_sources(self):
        one, other = "add 0 0 1 7 edge; ", "add 0 0 3 8 level; "
        for more in ("", "arrive 0 1 1; arrive 0 3 2", "fork 0; close 0 0; close 1 3", "fork 0; close 1 3; fork 1"):
            start = START + "new_source 0; "
            self.alike_not_equal(start + one + other + more, start + other + one + more)

    def test_the_order_of_adding_of_a_finished_source(self):
        one, other = "add 0 0 1 7 edge; ", "add 0 0 2 8 edge; "
        for more in ("", "; copy 0 1 3; add 0 0 3 9 level", SEAL):
            self.alike_not_equal(
                START + one + other + "finish 0 1; wait 0 0 2" + more,
                START + other + one + "finish 0 1; wait 0 0 2" + more,
            )

    def test_the_order_of_adding_of_a_finished_source_while_both_are_pending(self):
        self.alike_not_equal(
            START + "add 0 0 1 7 level; add 0 0 2 8 edge; finish 0 1",
            START + "add 0 0 2 8 edge; add 0 0 1 7 level; finish 0 1; wait 0 0 2; change 0 0 2 edge",
        )

    def test_the_place_of_a_sealed_one_that_is_not_armed(self):
        once, edge = "add 0 0 1 7 once; ", "add 0 0 2 8 edge; "
        done = "arrive 0 1 1; wait 0 0 9"
        self.alike_not_equal(START + once + edge + done + SEAL, START + edge + once + done + SEAL)
        again = "add 0 0 2 8 once; "
        self.alike_not_equal(START + once + again + done + SEAL, START + again + once + done + SEAL)

    def test_it_has_no_place_among_two_others(self):
        first, second, third = "add 0 0 1 7 edge; ", "add 0 0 2 8 once; ", "add 0 0 3 9 edge; "
        start, done = START + "copy 0 1 3; ", "arrive 0 1 1; wait 0 0 9"
        seal = SEAL + "; close 1 3"
        base = start + first + second + third + done + seal
        self.alike_not_equal(base, start + second + first + third + done + seal)
        self.alike_not_equal(base, start + first + third + second + done + seal)
        self.told(base, start + third + second + first + done + seal)

    def test_the_number_of_a_sealed_one(self):
        for word in WORDS:
            for done in (
                "", "; arrive 0 1 1", "; arrive 0 1 1; wait 0 0 1", "; finish 0 1", "; finish 0 1; wait 0 0 1",
            ):
                self.alike_not_equal(
                    START + "add 0 0 1 7 " + word + done + SEAL, START + "add 0 0 2 7 " + word + done + SEAL,
                )

    def test_the_numbers_of_two_sealed_ones(self):
        self.alike_not_equal(
            START + "add 0 0 1 7 level; add 0 0 2 8 once" + SEAL, START + "add 0 0 2 7 level; add 0 0 1 8 once" + SEAL,
        )

    def test_the_word_of_a_quiet_one(self):
        for more in ("", SEAL, "; close 0 1", "; fork 0; close 0 0"):
            self.alike_not_equal(
                START + "add 0 0 1 7 edge; finish 0 1; wait 0 0 1" + more,
                START + "add 0 0 1 7 once; finish 0 1; wait 0 0 1" + more,
            )

    def test_whether_a_quiet_one_is_armed(self):
        # What was reported before the source was finished is not armed; behind a change it is.
        self.alike_not_equal(
            START + "add 0 0 1 7 once; arrive 0 1 1; wait 0 0 1; finish 0 1",
            START + "add 0 0 1 7 edge; arrive 0 1 1; finish 0 1; wait 0 0 1",
        )

    def test_edge_and_once_of_a_pending_one_of_a_finished_source(self):
        for more in ("", SEAL, "; read 0 1 -", "; close 0 1"):
            self.alike_not_equal(
                START + "add 0 0 1 7 edge; arrive 0 1 2; finish 0 1" + more,
                START + "add 0 0 1 7 once; arrive 0 1 2; finish 0 1" + more,
            )

    def test_several_at_once(self):
        self.alike_not_equal(
            START + "new_source 0; add 0 0 1 7 edge; add 0 0 3 8 once; add 0 0 2 9 once; finish 0 1; close 0 3",
            START + "new_source 0; add 0 0 2 9 edge; add 0 0 3 8 once; add 0 0 1 7 once; finish 0 1; close 0 3; "
                    "wait 0 0 2; change 0 0 1 edge; change 0 0 2 once",
        )


class CanBeTold(Pairs):
    def test_over_or_not(self):
        self.pair(support.system_of("end 0"), support.system_of(""), False)
        self.pair(support.system_of(START + "end 0"), support.system_of(START), False)

    def test_limits(self):
        for text in ("", START, START + "add 0 0 1 7 level" + SEAL):
            base = support.system_of(text, 4, 5)
            for processes, numbers in ((3, 5), (5, 5), (4, 4), (4, 6), (5, 4)):
                self.pair(base, support.system_of(text, processes, numbers), False)

    def test_limits_with_all_process_numbers_alive(self):
        self.pair(support.system_of("fork 0", 2, 3), support.system_of("fork 0", 3, 3), False)

    def test_alive_processes(self):
        self.told("fork 0", "")
        self.told("fork 0; end 0", "")
        self.told("fork 0; fork 0; end 1", "fork 0; fork 0; end 2")

    def test_tables(self):
        self.told("new_source 0", "")
        self.told("new_source 0", "new_set 0")
        self.told("new_source 0; copy 0 0 3; close 0 0", "new_source 0")
        self.told("new_source 0; copy 0 0 1", "new_source 0; new_source 0")
        self.told("new_set 0; copy 0 0 1", "new_set 0; new_set 0")
        self.told("new_source 0; fork 0", "new_source 0; fork 0; close 1 0; new_source 1")
        self.told("new_source 0; fork 0; close 0 0", "new_source 0; fork 0; close 1 0")
        both = "new_source 0; new_set 0; fork 0"
        self.told(both, both + "; copy 1 1 2; copy 1 0 1; copy 1 2 0; close 1 2")

    def test_units(self):
        self.told(START + "arrive 0 1 1", START)
        self.told(START + "arrive 0 1 1", START + "arrive 0 1 2")
        self.told(START + "finish 0 1", START)
        self.told(START + "arrive 0 1 1; finish 0 1", START + "finish 0 1")
        self.told(START + "arrive 0 1 1", START + "finish 0 1")

    def test_labels(self):
        for more in ("", SEAL):
            self.told(START + "add 0 0 1 7 level" + more, START + more)
            self.told(START + "add 0 0 1 7 level" + more, START + "add 0 0 1 8 level" + more)
        done = "; arrive 0 1 1; wait 0 0 1"
        self.told(START + "add 0 0 1 7 once" + done + SEAL, START + done.lstrip("; ") + SEAL)
        self.told(START + "add 0 0 1 7 once" + done + SEAL, START + "add 0 0 1 8 once" + done + SEAL)

    def test_labels_in_one_set_or_another(self):
        two = START + "new_set 0; "
        self.told(two + "add 0 0 1 7 edge", two + "add 0 3 1 7 edge")
        self.told(two + "add 0 0 1 7 edge; add 0 3 1 8 edge", two + "add 0 0 1 8 edge; add 0 3 1 7 edge")

    def test_the_source_of_a_label(self):
        two = "new_set 0; new_source 0; new_source 0; copy 0 1 3; copy 0 2 4; "
        self.told(two + "add 0 0 1 7 edge", two + "add 0 0 2 7 edge")
        # The same number, and another source at it.
        moved = "; copy 0 2 1; copy 0 3 2"
        self.told(two + "add 0 0 1 7 edge" + moved, two + "copy 0 2 1; add 0 0 1 7 edge; copy 0 3 2")
        done = "arrive 0 1 1; arrive 0 2 1; wait 0 0 9; read 0 1 -; read 0 2 -; fork 0; close 0 0; "
        done += "close 1 1; close 1 2; close 1 3; close 1 4"
        self.told(two + "add 0 0 1 7 once; " + done, two + "add 0 0 2 7 once; " + done)

    def test_words(self):
        for more in ("", "; arrive 0 1 1", SEAL, "; arrive 0 1 1" + SEAL, "; arrive 0 1 1; read 0 1 -", "; close 0 1"):
            for word in WORDS:
                for other in WORDS:
                    if word < other:
                        self.told(START + "add 0 0 1 7 " + word + more, START + "add 0 0 1 7 " + other + more)

    def test_level_and_another_word_of_a_finished_source(self):
        for more in ("", SEAL):
            for word in ("edge", "once"):
                self.told(
                    START + "add 0 0 1 7 level; finish 0 1" + more,
                    START + "add 0 0 1 7 " + word + "; finish 0 1" + more,
                )

    def test_edge_and_once_before_the_source_is_finished(self):
        done = "; arrive 0 1 1; wait 0 0 1; change 0 0 1 "
        for more in ("", SEAL):
            self.told(START + "add 0 0 1 7 edge" + more, START + "add 0 0 1 7 once" + more)
            one = START + "add 0 0 1 7 edge" + done
            self.told(one + "edge" + more, one + "once" + more)

    def test_whether_armed(self):
        for more in ("", SEAL):
            for word in WORDS:
                one = START + "add 0 0 1 7 once; arrive 0 1 1; wait 0 0 1; read 0 1 -"
                self.told(one + more, one + "; change 0 0 1 " + word + more)

    def test_whether_quiet(self):
        for more in ("", SEAL):
            for word in WORDS:
                one = START + "add 0 0 1 7 once; finish 0 1; wait 0 0 1"
                self.told(one + more, one + "; change 0 0 1 " + word + more)

    def test_the_number_of_one_that_is_not_sealed(self):
        for done in ("", "; arrive 0 1 1; wait 0 0 1", "; finish 0 1; wait 0 0 1"):
            for more in ("", "; close 0 1", "; fork 0; close 0 0", "; fork 0; close 1 2; close 0 0"):
                for word in WORDS:
                    self.told(
                        START + "add 0 0 1 7 " + word + done + more, START + "add 0 0 2 7 " + word + done + more,
                    )

    def test_the_numbers_of_two(self):
        for more in ("", "; close 0 2", "; new_source 0; copy 0 3 1"):
            self.told(
                START + "add 0 0 1 7 level; add 0 0 2 8 level" + more,
                START + "add 0 0 1 8 level; add 0 0 2 7 level; remove 0 0 1; copy 0 1 4; remove 0 0 2; "
                        "add 0 0 2 7 level; add 0 0 1 8 level; close 0 4" + more,
            )

    def test_the_number_of_one_in_a_full_table(self):
        start = "new_set 0; new_source 0; copy 0 1 2; "
        for more in ("", "; fork 0", "; copy 0 0 1"):
            self.told(start + "add 0 0 1 7 edge" + more, start + "add 0 0 2 7 edge" + more, processes=2, numbers=3)

    def test_the_order_of_adding(self):
        for words in (("edge", "edge"), ("level", "once"), ("once", "once"), ("level", "level")):
            one, other = "add 0 0 1 7 " + words[0] + "; ", "add 0 0 2 8 " + words[1] + "; "
            for more in ("", SEAL.lstrip("; "), "close 0 1", "fork 0; close 1 0"):
                self.told(START + one + other + more, START + other + one + more)

    def test_the_order_of_adding_of_what_is_pending(self):
        # Both were pending in the same order; it is told when they leave the queue.
        for word in WORDS:
            for more in ("", SEAL, "; read 0 1 -", "; read 0 1 -" + SEAL):
                one = START + "arrive 0 1 1; add 0 0 1 7 " + word + "; add 0 0 2 8 " + word
                # In the other one, they are appended one after another by changes.
                other = START + "add 0 0 2 8 once; add 0 0 1 7 once; arrive 0 1 1; wait 0 0 9; "
                other += "change 0 0 1 " + word + "; change 0 0 2 " + word
                self.exactly(support.system_of(one).row_of(0, 0), support.system_of(other).row_of(0, 0))
                self.told(one + more, other + more)

    def test_the_order_of_adding_of_one_that_is_not_armed(self):
        once, edge = "add 0 0 1 7 once; ", "add 0 0 2 8 edge; "
        done = "arrive 0 1 1; wait 0 0 9"
        for more in ("", "; close 0 1", "; fork 0; close 1 0", "; fork 0; copy 1 1 3; close 1 1; close 1 2; close 0 0"):
            self.told(START + once + edge + done + more, START + edge + once + done + more)
        again = "add 0 0 2 8 once; "
        self.told(START + once + again + done, START + again + once + done)
        self.told(START + once + again + done, START + again + once + done, processes=2, numbers=3)

    def test_the_order_of_adding_of_armed_sealed_ones(self):
        for word in WORDS:
            one, other = "add 0 0 1 7 " + word + "; ", "add 0 0 2 8 " + word + "; "
            self.told(START + one + other + SEAL[2:], START + other + one + SEAL[2:])

    def test_the_queue(self):
        two = "new_set 0; new_source 0; new_source 0; add 0 0 1 7 edge; add 0 0 2 8 level; "
        for more in ("", "; fork 0; close 0 0; close 1 1; close 1 2"):
            both = "arrive 0 1 1; arrive 0 2 1"
            self.told(two + both + more, two + "arrive 0 2 1; arrive 0 1 1" + more)
            self.told(two + both + more, two + both + "; wait 0 0 1" + more)
            self.told(two + both + more, two + both + "; wait 0 0 1; change 0 0 1 edge" + more)

    def test_the_queue_of_finished_sources(self):
        two = "new_set 0; new_source 0; new_source 0; add 0 0 1 7 edge; add 0 0 2 8 level; "
        for more in ("", "; fork 0; close 0 0; close 1 1; close 1 2"):
            self.told(two + "finish 0 1; finish 0 2" + more, two + "finish 0 2; finish 0 1" + more)
            self.told(two + "finish 0 1; finish 0 2" + more, two + "finish 0 1; finish 0 2; wait 0 0 1" + more)

    def test_places_of_those_whose_source_is_not_ready(self):
        two = "new_set 0; new_source 0; new_source 0; add 0 0 1 7 edge; add 0 0 2 8 level; "
        for read in ("; read 0 1 -", "; read 0 2 -", "; read 0 1 -; read 0 2 -"):
            for last in ("", "; fork 0; close 0 0; close 1 1; close 1 2"):
                more = read + last
                self.told(two + "arrive 0 1 1; arrive 0 2 1" + more, two + "arrive 0 2 1; arrive 0 1 1" + more)

    def test_pending_or_not_while_the_source_is_not_ready(self):
        one = "new_set 0; new_source 0; add 0 0 1 7 "
        for word in WORDS:
            for more in ("", "; fork 0; close 0 0; close 1 1"):
                self.told(one + word + "; arrive 0 1 1; read 0 1 -" + more, one + word + more)
                self.told(one + word + "; arrive 0 1 1; read 0 1 -" + more, one + word + more, processes=2, numbers=3)

    def test_edge_pending_or_not_while_the_source_is_ready(self):
        one = START + "add 0 0 1 7 edge; arrive 0 1 1"
        for more in ("", SEAL):
            self.told(one + more, one + "; wait 0 0 1" + more)


class Quiet(support.Case):
    def tell(self, text, wanted, label=7):
        system = support.system_of(text)
        before = support.shown(system)
        set_name = [kept[0] for kept in system.registrations() if kept[1] == label][0]
        self.exactly(is_quiet(system, set_name, label), wanted)
        self.assertEqual(support.shown(system), before)

    def test_not_armed(self):
        for more in ("", "; read 0 1 -", "; finish 0 1", "; arrive 0 1 4", SEAL, "; close 0 1"):
            self.tell(START + "add 0 0 1 7 once; arrive 0 1 1; wait 0 0 1" + more, True)

    def test_armed_again(self):
        for word in WORDS:
            self.tell(START + "add 0 0 1 7 once; arrive 0 1 1; wait 0 0 1; change 0 0 1 " + word, False)

    def test_a_source_that_is_not_finished(self):
        for word in WORDS:
            emptied = "; arrive 0 1 1; read 0 1 -"
            for more in ("", "; arrive 0 1 1", emptied, emptied + "; wait 0 0 1", SEAL):
                self.tell(START + "add 0 0 1 7 " + word + more, False)
        self.tell(START + "add 0 0 1 7 edge; arrive 0 1 1; wait 0 0 1", False)
        self.tell(START + "add 0 0 1 7 level; arrive 0 1 1; wait 0 0 1", False)

    def test_a_finished_source(self):
        for done in ("finish 0 1", "arrive 0 1 1; finish 0 1", "arrive 0 1 1; wait 0 0 1; finish 0 1; change 0 0 1 "):
            for word in WORDS:
                text = START + "add 0 0 1 7 " + word + "; " + done + (word if done.endswith(" ") else "")
                self.tell(text, False)
                self.tell(text + "; wait 0 0 1", word != "level")
                self.tell(text + "; wait 0 0 1; change 0 0 1 edge", False)
                self.tell(text + "; wait 0 0 1; change 0 0 1 level; wait 0 0 3", False)

    def test_added_behind_the_finish(self):
        for word in WORDS:
            self.tell(START + "finish 0 1; add 0 0 1 7 " + word, False)
            self.tell(START + "finish 0 1; add 0 0 1 7 " + word + "; wait 0 0 1", word != "level")

    def test_each_by_itself(self):
        text = START + "add 0 0 1 7 edge; add 0 0 2 8 level; new_set 0; add 0 3 1 7 once; finish 0 1; wait 0 0 1"
        system = support.system_of(text)
        named = (((0, 0), 7), ((0, 0), 8), ((0, 3), 7))
        self.exactly([is_quiet(system, *each) for each in named], [True, False, False])
        system.wait(0, 3)
        self.exactly([is_quiet(system, *each) for each in named], [True, False, True])

    def test_a_quiet_one_reports_only_behind_a_change(self):
        quiet = 0
        for seed in range(200):
            grower = worlds.grower(seed, 2, 4)
            system = System.played(support.calls_of(START + "add 0 0 1 7 edge; add 0 0 2 8 once"), **grower.limits())
            for step in range(60):
                if step == 20:
                    system.answer(("finish", 0, 1))
                told = [kept[1] for kept in system.registrations() if is_quiet(system, kept[0], kept[1])]
                call = grower.call()
                if call[0] == "new_set":
                    continue
                answer = system.answer(call)
                if call[0] == "wait" and isinstance(answer, list):
                    quiet += len(told)
                    self.assertFalse([report for report in answer if report[0] in told])
        self.assertGreater(quiet, 50)


if __name__ == "__main__":
    unittest.main()
