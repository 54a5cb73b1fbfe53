"""Points [3], [17] and [18]: alike exactly if no row of calls has different answers."""

import random
import unittest

import probes
import support
import worlds
from pairs import Pairs
from waitnumbers.alike import alike
from waitnumbers.calls import answers
from waitnumbers.system import System

START = "new_set 0; new_source 0; copy 0 1 2; add 0 0 1 6 edge; add 0 0 2 7 once"


class Drawn(Pairs):
    def row_of(self, grower):
        calls = grower.grown(support.calls_of(START), grower.random.randrange(6, 40))
        if grower.random.random() < 0.6:
            calls = calls + grower.sealing(grower.number())
            calls = grower.grown(calls, len(calls) + 10)
        return calls

    def compare(self, grower, one, other):
        """No row of calls may tell alike systems apart; some row tells others apart."""
        wanted = alike(one, other)
        self.exactly(alike(other, one), wanted)
        self.assertIs(self.parted(one, other) is None, wanted)
        self.assertIs(self.parted(other, one) is None, wanted)
        told = probes.told_apart(one, other)
        self.assertEqual(told is None, wanted, (support.shown(one), support.shown(other), told))
        if wanted:
            for attempt in range(4):
                row = [grower.call() for call in range(100)]
                self.exactly(answers(one.twin(), row), answers(other.twin(), row))
        return wanted

    def test_rows_that_differ_a_little(self):
        counts = {True: 0, False: 0}
        for seed in range(700):
            grower = worlds.grower(seed, *[(2, 3), (3, 4), (2, 4), (2, 5)][seed % 4])
            calls = self.row_of(grower)
            one = System.played(calls, **grower.limits())
            for attempt in range(12):
                other = System.played(grower.varied(calls), **grower.limits())
                if one == other:
                    self.exactly(alike(one, other), True)
                elif alike(one, other) or attempt < 3:
                    counts[self.compare(grower, one, other)] += 1
        self.assertGreater(min(counts.values()), 100, counts)

    def test_alike_systems_stay_alike(self):
        """Behind each call of any row the answers are the same, and what is left is alike."""
        pairs = 0
        for seed in range(400):
            grower = worlds.grower(seed, *[(2, 3), (3, 4), (2, 4)][seed % 3])
            calls = self.row_of(grower)
            one = System.played(calls, **grower.limits())
            other = System.played(grower.varied(calls), **grower.limits())
            if one == other or not alike(one, other):
                continue
            pairs += 1
            for step in range(60):
                call = grower.call()
                self.exactly(one.answer(call), other.answer(call))
                self.exactly(alike(one, other), True)
        self.assertGreater(pairs, 5)

    def test_a_system_and_what_follows_it(self):
        """A system against what it is behind one call more, or two."""
        chosen = random.Random(1)
        for seed in range(100):
            grower = worlds.grower(seed, 2, 4)
            one = System.played(self.row_of(grower), **grower.limits())
            for attempt in range(5):
                other = one.twin()
                other.answer(grower.call())
                if chosen.random() < 0.5:
                    other.answer(grower.call())
                self.compare(grower, one, other)


if __name__ == "__main__":
    unittest.main()
