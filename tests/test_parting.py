"""Point [18]: parting rows, where differences hide one another, and in the largest systems."""

import itertools
import random
import time
import unittest

import support
from pairs import SEAL, START, WORDS, Pairs
from waitnumbers.experiments import parting, shows_parting
from waitnumbers.system import System

# A set 0 and two sources 1 and 2; the numbers from 3 on are free.
TWO = "new_set 0; new_source 0; new_source 0; "


def added(label, number, source, word):
    """The calls that add a registration of a source with a number that is free, and is free again."""
    return f"copy 0 {source} {number}; add 0 0 {number} {label} {word}; close 0 {number}; "


def adding(rows):
    return "".join(added(*row) for row in rows)


class HiddenByOneAnother(Pairs):
    """All labels, words and numbers are the same in both; only what belongs together differs."""

    def exchanged(self, rows, other_rows, ends):
        for end in ends:
            self.told(TWO + adding(rows) + end, TWO + adding(other_rows) + end)

    def test_numbers_of_two(self):
        ends = ["", "arrive 0 1 1", "arrive 0 1 1; wait 0 0 9", "arrive 0 1 1; read 0 1 -", "finish 0 1", "fork 0; end 0"]
        for word in WORDS:
            self.exchanged([(7, 3, 1, word), (8, 4, 1, word)], [(7, 4, 1, word), (8, 3, 1, word)], ends)

    def test_numbers_of_quiet_ones(self):
        ends = ["arrive 0 1 1; wait 0 0 9", "finish 0 1; wait 0 0 9", "arrive 0 1 1; wait 0 0 9; finish 0 1; fork 0"]
        for word in ("once", "edge"):
            rows = [(7, 3, 1, word), (8, 4, 1, word), (9, 5, 1, word)]
            other = [(7, 4, 1, word), (8, 5, 1, word), (9, 3, 1, word)]
            self.exchanged(rows, other, ends)

    def test_numbers_of_three(self):
        rows = [(7, 3, 1, "edge"), (8, 4, 1, "edge"), (9, 5, 1, "edge")]
        for numbers in itertools.permutations([3, 4, 5]):
            other = [(row[0], number, 1, "edge") for row, number in zip(rows, numbers)]
            if other != rows:
                self.exchanged(rows, other, ["", "arrive 0 1 1; wait 0 0 2"])

    def test_numbers_where_the_sets_own_number_is_one(self):
        start = "new_set 0; new_source 0; copy 0 0 2; copy 0 1 0; "
        for end in ("", "; copy 0 2 0; close 0 2", "; copy 0 2 0; copy 0 0 3"):
            self.told(
                start + "add 0 2 0 7 edge; add 0 2 1 8 edge" + end, start + "add 0 2 0 8 edge; add 0 2 1 7 edge" + end,
            )

    def test_numbers_in_tables_of_three(self):
        full = "new_set 0; new_source 0; copy 0 1 2; "
        ends = ["", "copy 0 0 1", "copy 0 0 2", "fork 0", "fork 0; copy 1 0 1; copy 1 0 2; copy 0 0 1"]
        # The set has a registration's number alone, and the source the other one or a third one.
        ends += ["copy 0 0 1; close 0 0", "copy 0 0 2; close 0 0", "fork 0; close 0 0"]
        ends += ["copy 0 0 1; copy 0 2 0", "copy 0 0 1; copy 0 2 0; close 0 2", "copy 0 0 2; copy 0 1 0; close 0 1"]
        for end in ends:
            for one, other in (("7 edge", "8 edge"), ("7 once", "8 once"), ("8 level", "7 level")):
                self.told(
                    full + "add 0 0 1 " + one + "; add 0 0 2 " + other + "; " + end,
                    full + "add 0 0 1 " + other + "; add 0 0 2 " + one + "; " + end, processes=2, numbers=3,
                )

    def test_sources_of_two(self):
        ends = ["", "arrive 0 1 1; arrive 0 2 1", "arrive 0 1 1; arrive 0 2 1; wait 0 0 9", "finish 0 1; finish 0 2"]
        ends += ["finish 0 1; finish 0 2; wait 0 0 9", "fork 0; close 0 0; close 1 1; close 1 2"]
        for word in WORDS:
            for number in (3, 4):
                rows, other = [(7, 3, 1, word), (8, number, 2, word)], [(7, 3, 2, word), (8, number, 1, word)]
                self.exchanged(rows, other, ends)

    def test_sources_of_quiet_sealed_ones_with_many_numbers(self):
        copies = "".join(f"copy 0 1 {number}; " for number in (3, 4, 5)) + "copy 0 2 6; copy 0 2 7; "
        start = TWO + copies
        quiet = "arrive 0 1 1; arrive 0 2 1; wait 0 0 9; read 0 1 -; read 0 2 -; "
        seal = "fork 0; close 0 0; " + "; ".join(f"close 1 {number}" for number in range(1, 8))
        for more in ("", "; fork 0; fork 0", "; new_source 1; copy 1 0 7"):
            self.told(
                start + "add 0 0 3 7 once; add 0 0 6 8 once; " + quiet + seal + more,
                start + "add 0 0 3 8 once; add 0 0 6 7 once; " + quiet + seal + more,
            )

    def test_places_of_two_in_the_order_of_adding(self):
        ends = ["", "arrive 0 1 1; read 0 1 -; wait 0 0 9", "arrive 0 1 1; wait 0 0 9", "fork 0; close 0 0; close 0 2"]
        for word in WORDS:
            for third in ([], [(9, 5, 1, word)], [(9, 5, 2, "level")]):
                rows = [(7, 3, 1, word), (8, 4, 1, word), *third]
                self.exchanged(rows, [rows[1], rows[0], *third], ends)

    def test_places_of_quiet_ones(self):
        """Neither is armed, or one of them; the order is told behind a change."""
        ends = ["arrive 0 1 1; wait 0 0 9", "arrive 0 1 1; wait 0 0 9; read 0 1 -", "arrive 0 1 1; wait 0 0 9; fork 0"]
        for words in (("once", "once"), ("once", "edge"), ("edge", "once"), ("once", "level")):
            rows = [(7, 3, 1, words[0]), (8, 4, 1, words[1])]
            self.exchanged(rows, [rows[1], rows[0]], ends)

    def test_places_of_quiet_ones_in_tables_of_three(self):
        full = "new_set 0; new_source 0; copy 0 1 2; "
        quiet = "arrive 0 1 1; wait 0 0 9; "
        for end in (
            "", "read 0 1 -", "copy 0 0 1", "copy 0 0 2", "close 0 1", "close 0 2; new_source 0",
            "copy 0 0 1; close 0 0", "copy 0 0 2; close 0 0", "copy 0 0 1; copy 0 2 0", "copy 0 0 2; copy 0 1 0; close 0 1",
        ):
            self.told(
                full + "add 0 0 1 7 once; add 0 0 2 8 once; " + quiet + end,
                full + "add 0 0 2 8 once; add 0 0 1 7 once; " + quiet + end, processes=2, numbers=3,
            )

    def test_places_in_the_queue(self):
        for words in itertools.product(WORDS, repeat=2):
            rows = adding([(7, 3, 1, words[0]), (8, 4, 2, words[1])])
            for end in ("", "; read 0 1 -", "; read 0 2 -", "; read 0 1 -; read 0 2 -", "; finish 0 1", "; fork 0; end 0"):
                self.told(
                    TWO + rows + "arrive 0 1 1; arrive 0 2 1" + end, TWO + rows + "arrive 0 2 1; arrive 0 1 1" + end,
                )

    def test_places_of_three_whose_sources_are_not_ready(self):
        start = "new_set 0; " + "new_source 0; " * 3
        start += "".join(f"add 0 0 {number} {number} edge; " for number in (1, 2, 3))
        ends = "; ".join(f"read 0 {number} -" for number in (1, 2, 3))
        orders = list(itertools.permutations([1, 2, 3]))
        systems = [
            support.system_of(start + "".join(f"arrive 0 {number} 1; " for number in order) + ends)
            for order in orders
        ]
        for one, other in itertools.combinations(systems, 2):
            self.pair(one, other, False)

    def test_pending_or_not_at_the_end_of_a_queue(self):
        """A queue that is the beginning of the other one."""
        for word in WORDS:
            rows = adding([(7, 3, 1, "edge"), (8, 4, 2, word)])
            for end in ("", "; fork 0; close 0 0; close 1 1; close 1 2", "; new_source 0; new_source 0; new_set 0"):
                both = TWO + rows + "arrive 0 1 1; read 0 1 -"
                self.told(both + "; arrive 0 2 1; read 0 2 -" + end, both + end)
                self.told(TWO + rows + "arrive 0 2 1; read 0 2 -" + end, TWO + rows.rstrip("; ") + end)

    def test_pending_or_not_where_the_least_labels_are_taken(self):
        for many in range(1, 6):
            rows = adding([(label, 3 + label, 1 + label % 2, "edge") for label in range(many)])
            self.told(TWO + rows + "arrive 0 1 1; read 0 1 -", TWO + rows.rstrip("; "))

    def test_pending_or_not_in_full_tables(self):
        for table in ("copy 0 1 2", "copy 0 0 2", "new_source 0", "new_set 0"):
            start = "new_set 0; new_source 0; add 0 0 1 7 edge; " + table
            for end in ("", "; fork 0", "; copy 0 1 0; copy 0 2 1" if table == "copy 0 0 2" else ""):
                self.told(start + "; arrive 0 1 1; read 0 1 -" + end, start + end, processes=2, numbers=3)

    def test_orders_and_queues_at_once(self):
        """The order of adding is exchanged, and the order in which they are pending the other way."""
        for word in WORDS:
            one = TWO + adding([(7, 3, 1, word), (8, 4, 1, word), (9, 5, 2, word)])
            other = TWO + adding([(8, 4, 1, word), (7, 3, 1, word), (9, 5, 2, word)])
            self.told(one + "arrive 0 2 1; arrive 0 1 1", other + "arrive 0 1 1; arrive 0 2 1")


class SetsAndSources(Pairs):
    def test_sets_that_only_the_number_of_a_registration_tells(self):
        start = START + "new_set 0; "
        for one, other in ((1, 2), (2, 1)):
            rows = f"add 0 0 {one} 7 edge; add 0 3 {other} 7 edge"
            swapped = f"add 0 3 {one} 7 edge; add 0 0 {other} 7 edge"
            self.told(start + rows, start + swapped)
            # Sealed ones, so that there is nothing to tell the sets by.
            seal = "; fork 0; close 0 0; close 0 3; close 1 1; close 1 2"
            self.alike_not_equal(start + rows + seal, start + swapped + seal)

    def test_sets_that_nothing_tells(self):
        self.pair(support.system_of("new_set 0; new_set 0"), support.system_of("new_set 0; new_set 0; copy 0 0 2; "
                  "copy 0 1 0; copy 0 2 1; close 0 2"), True)

    def test_kinds(self):
        self.told("new_source 0; new_set 0", "new_set 0; new_source 0")
        self.told("new_source 0; new_set 0; fork 0; end 0", "new_set 0; new_source 0; fork 0; end 0")

    def test_which_numbers_mean_one_thing(self):
        self.told("new_source 0; copy 0 0 1; new_source 0", "new_source 0; new_source 0; copy 0 0 2")
        self.told("new_set 0; new_set 0; fork 0", "new_set 0; new_set 0; fork 0; copy 1 0 1")
        self.told("new_set 0; fork 0; new_set 1; copy 1 1 0; close 1 1", "new_set 0; fork 0")

    def test_the_thing_at_the_last_number_of_the_last_process(self):
        sources = "new_source 0; " * 8 + "fork 0; " * 5
        self.told(sources + "finish 5 7", sources, processes=6, numbers=8)
        self.told(sources, sources + "close 5 7; new_source 5", processes=6, numbers=8)
        self.told(sources, sources + "close 5 7", processes=6, numbers=8)


class Limits(Pairs):
    def test_every_pair_of_limits(self):
        limits = [(2, 3), (2, 8), (6, 3), (6, 8), (3, 4)]
        for text in ("", "new_source 0", "new_set 0; fork 0", START, "new_source 0; copy 0 0 2; close 0 0"):
            for one, other in itertools.combinations(limits, 2):
                self.pair(support.system_of(text, *one), support.system_of(text, *other), False)

    def test_full_tables(self):
        full = "new_source 0; new_source 0; new_set 0"
        self.pair(support.system_of(full, 2, 3), support.system_of(full, 2, 4), False)

    def test_over(self):
        over = [support.system_of(text + "end 0", *limits) for text in ("", START) for limits in ((2, 3), (6, 8))]
        for one, other in itertools.product(over, repeat=2):
            self.exactly(parting(one, other), None)
            for row in ([("numbers", 0)], [("fork", 0), ("new_set", 1)], []):
                self.exactly(shows_parting(one, other, row), False)
        for alive in ("", "fork 0; end 0", "new_source 0"):
            self.pair(over[0], support.system_of(alive), False)


def largest(changed=lambda process, number, label: "", more=""):
    """Six full tables of eight, a set at 0 in all of them, forty-two sources, all registered.

    What is changed is asked for each source, and stands instead of its registration.
    """
    text = "new_set 0; " + "fork 0; " * 5
    for process in range(6):
        for number in range(1, 8):
            label = 10 * process + number
            usual = f"add {process} 0 {number} {label} {WORDS[label % 3]}; "
            text += f"new_source {process}; " + (changed(process, number, label) or usual)
    return support.system_of(text + more, 6, 8)


class Largest(Pairs):
    def only(self, where, calls):
        return largest(lambda process, number, label: calls if (process, number) == where else "")

    def test_the_largest_systems_are_alike(self):
        self.exactly(parting(largest(), largest()), None)
        more = "; ".join(f"arrive {process} {number} 1" for process in range(6) for number in range(1, 8))
        self.exactly(parting(largest(more=more), largest(more=more)), None)

    def test_each_difference_of_one(self):
        base = largest()
        for process, number in ((0, 1), (3, 4), (5, 7)):
            label = 10 * process + number
            word = WORDS[label % 3]
            for calls in (
                " ",
                f"add {process} 0 {number} {label + 100} {word}; ",
                f"add {process} 0 {number} {label} {WORDS[(label + 1) % 3]}; ",
                f"add {process} 0 {number} {label} {WORDS[(label + 2) % 3]}; ",
                f"add {process} 0 {number} {label} {word}; arrive {process} {number} 1; ",
                f"add {process} 0 {number} {label} {word}; arrive {process} {number} 1; read {process} {number} -; ",
                f"add {process} 0 {number} {label} {word}; finish {process} {number}; ",
                f"add {process} 0 {number} {label} once; arrive {process} {number} 1; wait 0 0 9; read {process} {number} -; ",
            ):
                other = self.only((process, number), calls)
                for row in (self.parted(base, other), self.parted(other, base)):
                    self.assertIsNotNone(row)

    def test_the_number_of_one(self):
        """Its source had another number for a while, where the last source comes later."""
        def added_at(wanted):
            def changed(process, number, label):
                if (process, number) != (4, 3):
                    return ""
                return f"copy 4 3 {wanted}; add 4 0 {wanted} {label} edge; " + ("" if wanted == 3 else f"close 4 {wanted}; ")
            return largest(changed)
        for one, other in itertools.permutations([3, 4, 7], 2):
            self.assertIsNotNone(self.parted(added_at(one), added_at(other)))

    def test_exchanged_labels(self):
        """Of two sources with the same number in two processes, in one process, and of three."""
        def exchanged(labels):
            def changed(process, number, label):
                return f"add {process} 0 {number} {labels[label]} level; " if label in labels else ""
            return largest(changed)
        base = exchanged({14: 14, 54: 54, 15: 15, 33: 33})
        for labels in ({14: 54, 54: 14}, {14: 15, 15: 14}, {14: 54, 54: 33, 33: 14}, {33: 15, 15: 54, 54: 33}):
            other = exchanged({**{14: 14, 54: 54, 15: 15, 33: 33}, **labels})
            for row in (self.parted(base, other), self.parted(other, base)):
                self.assertIsNotNone(row)

    def test_places(self):
        """The first and the last of forty-two are exchanged in the queue, whose sources are ready or not."""
        cells = [(process, number) for process in range(6) for number in range(1, 8)]
        other_cells = [cells[-1], *cells[1:-1], cells[0]]
        near_cells = [*cells[:20], cells[21], cells[20], *cells[22:]]
        read = "; ".join(f"read {process} {number} -" for process, number in cells)
        for end in ("", "; " + read):
            systems = [
                largest(more="; ".join(f"arrive {process} {number} 2" for process, number in row) + end)
                for row in (cells, other_cells, near_cells, cells[:-1], cells[1:])
            ]
            for one, other in itertools.permutations(systems, 2):
                self.assertIsNotNone(self.parted(one, other))

    def test_orders_of_adding(self):
        """Two registrations of one source, quiet ones too, in full tables."""
        pair = ["add 2 0 1 21 once; ", "add 2 0 2 99 once; "]
        def changed(rows, process, number):
            if (process, number) == (2, 1):
                return "copy 2 1 2; " + "".join(rows) + "close 2 2; "
            return ""
        one = largest(lambda process, number, label: changed(pair, process, number))
        other = largest(lambda process, number, label: changed(pair[::-1], process, number))
        self.assertIsNotNone(self.parted(one, other))
        self.assertIsNotNone(self.parted(other, one))
        for system in (one, other):
            system.arrive(2, 1)
            self.exactly(len(system.wait(0, 0, 9)), 2)
        self.assertIsNotNone(self.parted(one, other))
        self.assertIsNotNone(self.parted(other, one))

    def test_sealed_ones_with_as_many_numbers_as_can_be(self):
        """One source has twenty-three numbers, the other twenty-four; the set has one."""
        def made(labels):
            text = f"new_set 0; new_source 0; new_source 0; add 0 0 1 {labels[0]} edge; add 0 0 2 {labels[1]} edge; "
            text += "fork 0; close 1 0; fork 1; fork 1; fork 1; fork 1; close 0 1; close 0 2; "
            for process in range(1, 6):
                free = [0, 3, 4, 5, 6, 7]
                text += "".join(f"copy {process} {1 + free.index(k) % 2} {k}; " for k in free)
            return support.system_of(text, 6, 8)
        one, other = made((7, 8)), made((8, 7))
        self.assertFalse(one == other)
        for row in (self.parted(one, other), self.parted(other, one)):
            self.assertGreater(len(row), 20)

    def test_few_words_for_many_sets(self):
        """Forty-two sets with one source; the last one alone differs."""
        text = "new_source 0; " + "fork 0; " * 5
        text += "".join(f"new_set {process}; " for process in range(6) for number in range(7))
        text += "".join(
            f"add {process} {number} 0 5 edge; " for process in range(6) for number in range(1, 8)
        )
        one = support.system_of(text + "change 5 7 0 once", 6, 8)
        other = support.system_of(text, 6, 8)
        self.assertIsNotNone(self.parted(one, other))
        self.assertIsNotNone(self.parted(other, one))


class RunningTime(Pairs):
    def test_the_largest_systems_answer_in_seconds(self):
        arrivals = "; ".join(f"arrive {process} {number} 1" for process in range(6) for number in range(1, 8))
        system = largest(more=arrivals)
        begin = time.process_time()
        for call in (("change", 5, 0, 7, "edge"), ("wait", 0, 0, 1), ("remove", 3, 0, 4), ("read", 5, 7, None)):
            other = system.twin()
            self.assertFalse(isinstance(other.answer(call), str))
            self.assertIsNotNone(parting(system, other))
            self.assertIsNotNone(parting(other, system))
        self.exactly(parting(system, system.twin()), None)
        self.assertLess(time.process_time() - begin, 10)


class ShowsParting(Pairs):
    def setUp(self):
        self.one = support.system_of(START + "arrive 0 1 1")
        self.other = support.system_of(START)

    def shows(self, calls, wanted):
        before = support.shown(self.one), support.shown(self.other)
        self.exactly(shows_parting(self.one, self.other, calls), wanted)
        self.exactly(shows_parting(self.other, self.one, calls), wanted)
        self.assertEqual((support.shown(self.one), support.shown(self.other)), before)

    def test_the_last_call_has_different_answers(self):
        for last in (("units", 0, 1), ("units", 0, 2), ("read", 0, 1, None), ("read", 0, 2, 5)):
            self.shows([last], True)
            self.shows((last,), True)
            self.shows([("numbers", 0), ("fork", 0), ("fork", 9), last], True)
            self.shows([last, ("numbers", 0)], False)
            self.shows([last, last], False)
            self.shows([last, ("units", 0, 1)], False)
        self.shows([("copy", 0, 1, None), ("close", 0, 1), ("units", 0, 3)], True)
        self.shows([("close", 0, 1), ("close", 0, 2), ("units", 0, 2)], False)
        self.shows([("add", 0, 0, 1, 7, "level"), ("wait", 0, 0, 1)], True)

    def test_no_difference(self):
        for row in ([("numbers", 0)], [("fork", 0)], support.PLAIN_CALLS[:3], [("units", 0, 0)], [("units", 0, 7)]):
            self.shows(row, False)

    def test_sixty_calls_and_one_more(self):
        for look in (("numbers", 0), ("units", 0, 0), ("copy", 0, 1, None)):
            for many, wanted in ((0, True), (58, True), (59, True), (60, False), (61, False), (499, False)):
                row = [look] * many + [("units", 0, 1)]
                self.shows(row, wanted)
                self.shows(tuple(row), wanted)

    def test_no_call(self):
        self.shows([], False)
        self.shows((), False)

    def test_any_object(self):
        for junk in support.JUNK:
            self.shows(junk, False)
            self.shows([junk], False)
            self.shows([junk, ("units", 0, 1)], False)
            self.shows([("units", 0, 1), junk], False)
            self.shows(("units", 0, junk), False)
        self.shows(("units", 0, 1), False)
        self.shows([["units", 0, 1]], False)
        self.shows("units 0 1", False)
        self.shows([("units", 0, 1, 2)], False)
        self.shows([("Units", 0, 1)], False)
        self.shows({("units", 0, 1): True}, False)

    def test_calls_without_texts(self):
        """Arguments may be any objects; True is not 1."""
        for junk in support.JUNK:
            self.shows([("units", 0, junk), ("units", 0, 1)], True)
            self.shows([("units", junk, 1)], False)
            self.shows([("wait", 0, 0, junk), ("read", 0, 1, 3)], True)
        self.shows([("read", 0, 1, True)], False)
        self.shows([("read", 0, 1, True), ("read", 0, 1, 1)], True)
        self.shows([("read", 0, True, 1)], False)

    def test_by_names(self):
        row = [("units", 0, 1)]
        self.exactly(shows_parting(one=self.one, other=self.other, calls=row), True)
        self.exactly(shows_parting(calls=row, other=self.one, one=self.one), False)
        self.exactly(parting(one=self.one, other=self.other), parting(self.one, self.other))

    def test_the_list_is_the_callers(self):
        got = parting(self.one, self.other)
        kept = list(got)
        got.clear()
        self.exactly(parting(self.one, self.other), kept)


class Drawn(Pairs):
    """Registrations whose numbers, sources, words, places and arrivals are dealt out anew."""

    LAST = ["", "fork 0; end 0", "fork 0; close 0 0", "close 0 0; new_source 0", "fork 0; copy 1 1 2; close 0 1"]

    def dealt(self, chosen, labels):
        numbers = chosen.sample([3, 4, 5], len(labels))
        rows = [
            (label, number, chosen.choice([1, 1, 2]), chosen.choice(["edge", "once", "level", "edge", "once"]))
            for label, number in zip(labels, numbers)
        ]
        chosen.shuffle(rows)
        return rows

    def anew(self, chosen, rows):
        """The rows with one of their columns, or their order, dealt out anew."""
        rows = list(rows)
        column = chosen.randrange(5)
        if column == 4:
            chosen.shuffle(rows)
            return rows
        values = [row[column] for row in rows]
        chosen.shuffle(values)
        return [(*row[:column], value, *row[column + 1:]) for row, value in zip(rows, values)]

    def events(self, chosen):
        calls = ["arrive 0 1 1", "arrive 0 2 1", "read 0 1 -", "read 0 2 -", "wait 0 0 1", "wait 0 0 9", "finish 0 1"]
        return [chosen.choice(calls) for event in range(chosen.randrange(7))]

    def played(self, rows, events, last):
        text = TWO + adding(rows) + "; ".join([*events, last])
        return System.played(support.calls_of(text), processes=2, numbers=6)

    def test_what_is_dealt_out_anew(self):
        chosen = random.Random(18)
        counts = {True: 0, False: 0}
        for attempt in range(1500):
            rows = self.dealt(chosen, [7, 8, 9][:chosen.choice([2, 3])])
            events, last = self.events(chosen), chosen.choice(self.LAST)
            one = self.played(rows, events, last)
            if chosen.random() < 0.3:
                chosen.shuffle(events)
            other = self.played(self.anew(chosen, rows), events, last)
            if one == other:
                continue
            wanted = self.parted(one, other) is None
            self.assertIs(self.parted(other, one) is None, wanted)
            if wanted or attempt < 300:
                counts[wanted] += 1
                self.pair(one, other, wanted, drawn=2)
        self.assertGreater(min(counts.values()), 40, counts)


if __name__ == "__main__":
    unittest.main()
