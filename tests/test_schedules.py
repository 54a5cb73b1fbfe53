"""Points [3] and [19] to [23]: drawn crews against walks through all their schedules."""

import random
import unittest

import support
import walks
import worlds
from waitnumbers.crews import Crew
from waitnumbers.strays import counted, fewest_removals, least_stray, with_removals
from waitnumbers.system import System

TAKE = ("take", 0)
ALL = ("read", None)
CLOSE = ("close",)
MAKE = ("make",)
WATCH = ("watch", 0, 9, "level")

# Rows of steps in which a number may be used again before it is used.
ROWS = [
    (TAKE, CLOSE), (TAKE, ALL, CLOSE), (TAKE, CLOSE, MAKE), (TAKE, ALL), (TAKE, ("remove", 0)), (MAKE, WATCH), (MAKE,),
    (TAKE, CLOSE, TAKE, CLOSE), (TAKE, CLOSE, MAKE, CLOSE), (TAKE, CLOSE, CLOSE), (MAKE, TAKE, CLOSE),
]
CALLS = [
    ("arrive", 1, 1, 1), ("arrive", 1, 2, 1), ("arrive", 0, 1, 1), ("close", 1, 1), ("copy", 0, 2, 1), ("fork", 0),
    ("new_source", 0), ("finish", 1, 1), ("copy", 1, 1, 2), ("end", 1), ("end", 0), ("copy", 0, 1, None), ("new_set", 0),
    ("change", 0, 0, 1, "level"), ("wait", 1, 0, 1), ("close", 0, 1),
]


class Drawer:
    def __init__(self, seed):
        self.random = random.Random(seed)

    def word(self):
        return self.random.choice(["level", "edge", "edge", "once"])

    def text(self, first=None):
        """A set, one source or two, one registration or two, and a second process that has all this."""
        text = f"new_set 0; new_source 0; add 0 0 1 5 {first or self.word()}; "
        second = self.random.choice(["", "new_source 0; ", "copy 0 1 2; "])
        if second:
            text += second + f"add 0 0 2 6 {self.word()}; "
        text += "fork 0; arrive 0 1 1"
        if second and self.random.random() < 0.6:
            text += "; arrive 0 2 1"
        return text

    def step(self):
        """Any step, one that does nothing among them."""
        chosen = self.random.random()
        number = self.random.choice([0, 0, 0, 0, 1, True, None])
        if chosen < 0.3:
            return ("call", self.random.choice(CALLS))
        return self.random.choice([
            ("take", number), ("read", self.random.choice([None, 1, 0])), CLOSE, ("remove", number), MAKE,
            ("watch", number, self.random.choice([5, 9]), self.random.choice(["level", "once", "word"])),
        ])

    def workers(self, most):
        rows = [list(self.random.choice(ROWS)) for worker in range(self.random.choice([1, 2, 2, 3, 3, 4]))]
        for row in rows:
            while self.random.random() < 0.35:
                row.insert(self.random.randrange(len(row) + 1), self.step())
        while sum(len(row) for row in rows) > most:
            self.random.choice(rows)[-1:] = []
        return [(self.random.choice([0, 0, 0, 0, 1]), tuple(row[:6])) for row in rows]


class Drawn(support.Case):
    def drawn(self, seed, most=7):
        drawer = Drawer(seed)
        numbers = drawer.random.choice([3, 3, 4])
        calls, workers = support.calls_of(drawer.text()), drawer.workers(most)
        return calls, workers, numbers, Crew(System.played(calls, processes=2, numbers=numbers), *workers)

    def compare(self, told, crew, walk):
        """The crew and its twin from before, and what the walk found."""
        twin = crew.done(())
        self.exactly((told, least_stray(crew)), (told, walk.least))
        self.exactly((told, counted(crew)), (told, (walk.complete, walk.strayed)))
        self.assertTrue(crew == twin)

    def test_all_schedules_one_by_one(self):
        strays = 0
        for seed in range(250):
            calls, workers, numbers, crew = self.drawn(seed, 6)
            walk = walks.Walk(walks.band_of(calls, workers, 2, numbers))
            self.compare((seed, workers), crew, walk)
            strays += walk.least is not None
        self.assertGreater(strays, 30)

    def test_larger_crews(self):
        strays = 0
        for seed in range(1000, 1100):
            calls, workers, numbers, crew = self.drawn(seed, 9)
            walk = walks.Merged(walks.band_of(calls, workers, 2, numbers))
            self.compare((seed, workers), crew, walk)
            strays += walk.least is not None
        self.assertGreater(strays, 20)

    def test_the_two_walks(self):
        """Merging equal states loses nothing."""
        for seed in range(5000, 5060):
            calls, workers, numbers, crew = self.drawn(seed, 6)
            band = walks.band_of(calls, workers, 2, numbers)
            walk, merged = walks.Walk(band), walks.Merged(band)
            self.exactly(
                (walk.least, walk.complete, walk.strayed, len(walk.states)),
                (merged.least, merged.complete, merged.strayed, merged.many),
            )

    def test_the_fewest_removals(self):
        found = {}
        for seed in range(2000, 2250):
            calls, workers, numbers, crew = self.drawn(seed)
            twin = crew.done(())
            wanted = walks.fewest(calls, workers, 2, numbers)
            self.exactly((seed, workers, fewest_removals(crew)), (seed, workers, wanted))
            self.assertTrue(crew == twin)
            many = None if wanted is None else len(wanted)
            found[many] = found.get(many, 0) + 1
        self.assertGreater(min(found[None], found[0]), 20, found)

    def test_the_fewest_removals_where_some_help(self):
        """A number is taken, closed, used again and taken again."""
        found = {}
        for seed in range(80):
            drawer = Drawer(seed)
            calls = support.calls_of(drawer.text("level"))
            rows = [(TAKE, CLOSE, TAKE, CLOSE), (MAKE,), drawer.random.choice([(TAKE,), (MAKE, WATCH), ()])]
            drawer.random.shuffle(rows)
            workers = [(0, row) for row in rows]
            crew = Crew(System.played(calls, processes=2, numbers=4), *workers)
            wanted = walks.fewest(calls, workers, 2, 4)
            self.exactly((seed, fewest_removals(crew)), (seed, wanted))
            many = None if wanted is None else len(wanted)
            found[many] = found.get(many, 0) + 1
        self.assertGreater(found[1], 10, found)

    def test_removals_at_any_places(self):
        for seed in range(3000, 3120):
            calls, workers, numbers, crew = self.drawn(seed)
            chosen = [place for place in walks.places_of(workers) if (seed + sum(place)) % 2]
            changed = walks.with_removals(workers, chosen)
            made = with_removals(crew, chosen)
            self.assertTrue(made == Crew(crew.system(), *changed))
            self.compare((seed, changed), made, walks.Merged(walks.band_of(calls, changed, 2, numbers)))

    def test_one_schedule_in_a_grown_system(self):
        """Step by step against the second crew, in systems that have more in them."""
        steps = 0
        for seed in range(150):
            grower = worlds.grower(seed, *[(2, 4), (3, 5), (4, 8)][seed % 3])
            start = support.calls_of("new_set 0; new_source 0; add 0 0 1 6 level; new_source 0; add 0 0 2 7 edge; fork 0")
            calls = grower.grown(start, grower.random.randrange(6, 30))
            system = System.played(calls, **grower.limits())
            drawer = Drawer(seed)
            workers = [
                (drawer.random.choice(system.alive()), tuple(drawer.step() for step in range(6))) for worker in range(4)
            ]
            crew = Crew(system, *workers)
            band = walks.band_of(calls, workers, *system.limits)
            while crew.possible():
                self.exactly((seed, crew.possible()), (seed, [index for index in range(4) if band.may(index)]))
                index = drawer.random.choice(crew.possible())
                self.exactly((seed, crew.is_stray(index)), (seed, band.strays(index)))
                crew = crew.after(index)
                band.do(index)
                steps += 1
                self.exactly(support.shown(crew.system()), band.box.shown())
                for at, worker in enumerate(band.workers):
                    self.exactly((crew.taken(at), crew.made(at)), (worker.number, worker.made))
                self.exactly(len(crew), sum(len(worker.steps) for worker in band.workers))
        self.assertGreater(steps, 1500)

    def test_crews_are_equal_exactly_if_they_are_shown_so(self):
        pairs = {True: 0, False: 0}
        for seed in range(4000, 4040):
            calls, workers, numbers, crew = self.drawn(seed, 8)
            chosen = random.Random(seed)
            reached = []
            for attempt in range(12):
                one, band = crew, walks.band_of(calls, workers, 2, numbers)
                for step in range(chosen.randrange(2, 7)):
                    if one.possible():
                        index = chosen.choice(one.possible())
                        one = one.after(index)
                        band.do(index)
                reached.append((one, band.shown()))
            for one, text in reached:
                for other, other_text in reached:
                    self.exactly(one == other, text == other_text)
                    pairs[text == other_text] += 1
        self.assertGreater(min(pairs.values()), 200)


if __name__ == "__main__":
    unittest.main()
