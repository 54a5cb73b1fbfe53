"""Crews: workers that take turns in a system."""

from waitnumbers.checks import is_between
from waitnumbers.errors import NotPossible
from waitnumbers.steps import Hand
from waitnumbers.steps import check_workers
from waitnumbers.steps import do_step
from waitnumbers.steps import is_astray
from waitnumbers.steps import is_possible


class Crew:
    """A system of its own, its workers, and what each of them keeps and does next."""

    def __init__(self, system, *workers):
        check_workers(workers)
        self.held = system.twin()
        self.workers = workers
        # 1 equals True, but their texts do not.
        self.told = repr(workers)
        self.hands = [Hand(0, None, None, None) for worker in workers]

    def possible(self):
        """The indexes of the workers whose next step is possible."""
        return [index for index in range(len(self.workers)) if self.can_go_on(index)]

    def after(self, index):
        """The crew behind the next step of this worker."""
        if not self.can_go_on(index):
            raise NotPossible(index)
        return self.behind(index)

    def is_stray(self, index):
        """Whether the next step of this worker is a stray."""
        if not self.can_go_on(index):
            raise NotPossible(index)
        return self.goes_astray(index)

    def done(self, schedule):
        """The crew behind a schedule."""
        crew = self
        for index in schedule:
            crew = crew.after(index)
        return crew

    def taken(self, worker):
        """The number that a worker has taken, or None."""
        return self.hands[worker].number

    def made(self, worker):
        """The number that a worker has made, or None."""
        return self.hands[worker].fresh

    def system(self):
        """A twin of the system as it is now."""
        return self.held.twin()

    def __eq__(self, other):
        return isinstance(other, Crew) and self.told == other.told and self.state() == other.state()

    def __len__(self):
        return len([step for index in range(len(self.workers)) for step in self.steps_left(index)])

    def steps_left(self, index):
        """The steps of a worker that are still to be done."""
        process, steps = self.workers[index]
        return steps[self.hands[index].at:]

    def can_go_on(self, index):
        """Whether any object is the index of a worker whose next step is possible."""
        if not is_between(index, 0, len(self.workers) - 1):
            return False
        left = self.steps_left(index)
        return len(left) > 0 and is_possible(self.held, self.workers[index][0], left[0])

    def goes_astray(self, index):
        """Whether the next step of a worker, which is possible, is a stray."""
        process, steps = self.workers[index]
        hand = self.hands[index]
        return is_astray(self.held, process, steps[hand.at], hand)

    def behind(self, index):
        """The crew behind the next step of a worker, which is possible."""
        process, steps = self.workers[index]
        hand = self.hands[index]
        other = self.twin()
        other.hands[index] = do_step(other.held, process, steps[hand.at], hand)
        return other

    def passed_by(self, index):
        """The crew in which the next step of a worker is left out."""
        hand = self.hands[index]
        other = self.twin()
        other.hands[index] = Hand(hand.at + 1, hand.number, hand.source, hand.fresh)
        return other

    def twin(self):
        """An equal crew, whose system goes on by itself."""
        other = Crew(self.held)
        other.workers = self.workers
        other.told = self.told
        other.hands = list(self.hands)
        return other

    def state(self):
        """All that equal crews of the same workers have in common."""
        # A source is kept by its name, which its place among the things tells as well.
        places = self.held.places()
        hands = [(hand.at, hand.number, places.get(hand.source, -1), hand.fresh) for hand in self.hands]
        return (self.held.state_by(places), tuple(hands))
