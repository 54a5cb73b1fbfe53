"""Two systems against each other: whether they are alike, and what tells them apart."""

import probes
import support
import worlds
from waitnumbers.alike import alike
from waitnumbers.calls import answers, read_calls, show_calls
from waitnumbers.experiments import parting, shows_parting

# A set 0, and a source with the numbers 1 and 2.
START = "new_set 0; new_source 0; copy 0 1 2; "
# The process 0 keeps the source alone, the process 1 the set alone.
SEAL = "; fork 0; close 0 0; close 1 1; close 1 2"
WORDS = ["level", "edge", "once"]


class Pairs(support.Case):
    def pair(self, one, other, wanted, drawn=6):
        """Both ways round; rows of calls tell them apart exactly if they are not alike."""
        before = support.shown(one), support.shown(other)
        twins = one.twin(), other.twin()
        self.exactly(alike(one, other), wanted)
        self.exactly(alike(other, one), wanted)
        self.exactly([alike(one, one), alike(other, other.twin())], [True, True])
        self.assertIs(self.parted(one, other) is None, wanted)
        self.assertIs(self.parted(other, one) is None, wanted)
        self.assertEqual((support.shown(one), support.shown(other)), before)
        self.assertTrue(one == twins[0] and other == twins[1])
        told = probes.told_apart(one, other)
        self.assertEqual(told is None, wanted, told)
        if wanted:
            for seed in range(drawn):
                grower = worlds.grower(seed, *one.limits)
                row = [grower.call() for call in range(80)]
                self.exactly(answers(one.twin(), row), answers(other.twin(), row))
                self.exactly(shows_parting(one, other, row[:60]), False)

    def parted(self, one, other):
        """The parting row, once it is walked in twins of both, or None."""
        row = parting(one, other)
        if row is None:
            self.assertTrue(alike(one, other))
            return None
        self.assertIs(type(row), list)
        self.assertIn(len(row), range(1, 61))
        self.exactly(read_calls(show_calls(row)), row)
        got, there = answers(one.twin(), row), answers(other.twin(), row)
        self.exactly(got[:-1], there[:-1])
        self.assertNotEqual(repr(got[-1]), repr(there[-1]))
        self.exactly([shows_parting(one, other, row), shows_parting(other, one, tuple(row))], [True, True])
        self.exactly(shows_parting(one, other, [*row, row[-1]]), False)
        self.exactly(shows_parting(one, other, row[:-1]), False)
        return row

    def alike_not_equal(self, text, other_text, **limits):
        one, other = support.system_of(text, **limits), support.system_of(other_text, **limits)
        self.assertFalse(one == other)
        self.pair(one, other, True)

    def told(self, text, other_text, **limits):
        one, other = support.system_of(text, **limits), support.system_of(other_text, **limits)
        self.assertFalse(one == other)
        self.pair(one, other, False)
