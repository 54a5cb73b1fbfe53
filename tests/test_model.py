"""Long rows of calls against the second system of model.py: points [3] to [13]."""

import random
import unittest

import support
from model import Model
from waitnumbers.calls import read_calls, show_calls
from waitnumbers.system import System

WORDS = ["level", "edge", "once"]
LOOKS = ["numbers", "same", "units"]


class Chooser:
    """Chooses calls, most of them with arguments that are likely to do something."""

    def __init__(self, seed, processes, numbers):
        self.random = random.Random(seed)
        self.processes = processes
        self.numbers = numbers

    def process(self):
        return self.odd(self.random.choice([0, 0, 0, 1, self.random.randrange(self.processes)]))

    def number(self):
        return self.odd(self.random.randrange(self.numbers))

    def odd(self, usual):
        return self.random.choice(support.JUNK) if self.random.random() < 0.01 else usual

    def call(self):
        name = self.random.choice(support.NAMES * 2 + ["add", "arrive", "wait", "copy", "change"] * 4)
        if name == "end" and self.random.random() < 0.6:
            name = "fork"
        if name == "finish" and self.random.random() < 0.6:
            name = "arrive"
        return (name, *self.arguments(name))

    def arguments(self, name):
        first = (self.process(),)
        if name in ("new_source", "new_set", "fork", "end", "numbers"):
            return first
        first += (self.number(),)
        if name == "copy":
            return (*first, self.odd(self.random.choice([None, self.number()])))
        if name == "arrive":
            return (*first, self.odd(self.random.randrange(1, 4)))
        if name == "read":
            return (*first, self.odd(self.random.choice([None, None, 1, 2])))
        if name == "add":
            return (*first, self.number(), self.odd(self.random.randrange(9)), self.word())
        if name == "change":
            return (*first, self.number(), self.word())
        if name == "remove":
            return (*first, self.number())
        if name == "wait":
            return (*first, self.odd(self.random.randrange(1, 5)))
        if name == "same":
            return (*first, self.process(), self.number())
        return first

    def word(self):
        return self.odd(self.random.choice(WORDS))


class AgainstTheModel(support.Case):
    def walk(self, seed, processes, numbers, steps):
        chooser = Chooser(seed, processes, numbers)
        system = System(processes=processes, numbers=numbers)
        model = Model(processes, numbers)
        done = []
        for call in [("new_set", 0), ("new_source", 0), ("new_source", 0)]:
            system.answer(call)
            model.answer(call)
            done.append(call)
        for step in range(steps):
            call = chooser.call()
            twin = system.twin()
            before = support.shown(system)
            answer = system.answer(call)
            self.exactly((seed, step, call, answer), (seed, step, call, model.answer(call)))
            self.assertEqual(support.shown(system), model.shown())
            if isinstance(answer, str) or call[0] in LOOKS:
                self.assertEqual(support.shown(system), before)
                self.assertTrue(system == twin)
            if support.shown(system) != before:
                self.assertFalse(system == twin)
            self.assertEqual(support.shown(twin), before)
            done.append(call)
        self.assertTrue(System.played(done, processes=processes, numbers=numbers) == system)
        return done

    def test_many_rows(self):
        for seed in range(120):
            processes, numbers = [(2, 3), (4, 8), (6, 8), (3, 4), (2, 8), (6, 3)][seed % 6]
            self.walk(seed, processes, numbers, 150)

    def test_a_few_long_rows(self):
        for seed in range(1000, 1008):
            self.walk(seed, 3, 5, 500)

    def test_the_texts_of_such_rows_are_read_back(self):
        for seed in range(60):
            chooser = Chooser(seed, 3, 5)
            chooser.odd = lambda usual: usual
            calls = [chooser.call() for _ in range(100)]
            self.exactly(read_calls(show_calls(calls)), calls)


if __name__ == "__main__":
    unittest.main()
