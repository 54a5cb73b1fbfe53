"""Strays: all schedules of a crew, and at which closings a removal must come first."""

from waitnumbers.checks import is_integer
from waitnumbers.crews import Crew
from waitnumbers.errors import BadPlace
from waitnumbers.errors import TooMany

MOST_STATES = 1000
MOST_PLACES = 6


class States:
    """The unlike states of a crew that were found so far, with the steps that lead on."""

    def __init__(self, crew):
        self.crews = [crew]
        self.found = {crew.state(): 0}
        self.ways = {}
        self.passed = {}

    def number_of(self, crew):
        """The number of a crew's state; a new one gets the next number."""
        state = crew.state()
        if state not in self.found:
            self.found[state] = len(self.crews)
            self.crews.append(crew)
        return self.found[state]

    def ways_from(self, number):
        """For each possible step in a state: the worker, whether it is a stray, the state behind."""
        if number not in self.ways:
            crew = self.crews[number]
            self.ways[number] = [
                (index, crew.goes_astray(index), self.number_of(crew.behind(index)))
                for index in crew.possible()
            ]
        return self.ways[number]

    def leave_out(self, number, index, steps):
        """The state in which a worker has passed its next step, if it is one of these."""
        crew = self.crews[number]
        if (index, crew.hands[index].at) not in steps:
            return number
        key = (number, index)
        if key not in self.passed:
            self.passed[key] = self.number_of(crew.passed_by(index))
        return self.passed[key]


def all_states(crew):
    """All unlike states of a crew.

    They are found level by level, so each has the number of its least schedule
    among those of all states.
    """
    states = States(crew)
    number = 0
    while number < len(states.crews):
        states.ways_from(number)
        if len(states.crews) > MOST_STATES:
            raise TooMany(MOST_STATES)
        number += 1
    return states


def least_stray(crew):
    """The least of the shortest schedules whose last step is a stray, or None."""
    states = all_states(crew)
    schedules = {0: ()}
    for number in range(len(states.crews)):
        for index, astray, behind in states.ways_from(number):
            schedule = (*schedules[number], index)
            if astray:
                return schedule
            schedules.setdefault(behind, schedule)
    return None


def counted(crew):
    """How many complete schedules there are, and how many of them have a stray."""
    states = all_states(crew)
    many = [0] * len(states.crews)
    clean = [0] * len(states.crews)
    many[0] = clean[0] = 1
    complete = strayed = 0
    # A state has a greater number than those ahead of it, so its counts are ready.
    for number in range(len(states.crews)):
        ways = states.ways_from(number)
        if len(ways) == 0:
            complete += many[number]
            strayed += many[number] - clean[number]
        for index, astray, behind in ways:
            many[behind] += many[number]
            clean[behind] += 0 if astray else clean[number]
    return (complete, strayed)


def removals_of(steps):
    """For each closing behind a take the step that removes what was taken."""
    removals = {}
    set_number = None
    taking = False
    for at, step in enumerate(steps):
        if step[0] == "take":
            set_number = step[1]
            taking = True
        if step[0] == "close" and taking:
            removals[at] = ("remove", set_number)
    return removals


def removal_places(crew):
    """All removal places of a crew."""
    return [
        (index, at)
        for index, (process, steps) in enumerate(crew.workers)
        for at in removals_of(steps)
    ]


def is_place(x, places):
    """Whether any object is one of these places; (True, 1) is not (1, 1)."""
    if not isinstance(x, tuple) or not all([is_integer(part) for part in x]):
        return False
    return x in places


def with_some(steps, chosen):
    """Steps with a removal ahead of each of the chosen closings."""
    removals = removals_of(steps)
    rows = [[removals[at], step] if at in chosen else [step] for at, step in enumerate(steps)]
    return tuple([step for row in rows for step in row])


def with_removals(crew, places):
    """A new crew with removals at some places, all steps of which are still to be done."""
    known = removal_places(crew)
    for place in places:
        if not is_place(place, known):
            raise BadPlace(place)
    workers = [
        (process, with_some(steps, [at for worker, at in places if worker == index]))
        for index, (process, steps) in enumerate(crew.workers)
    ]
    return Crew(crew.held, *workers)


def choices_of(places):
    """All lists of some of the places, the shorter ones first, equally short ones ascending."""
    choices = [[]]
    for place in reversed(places):
        choices = [*choices, *[[place, *choice] for choice in choices]]
    return sorted(sorted(choices), key=len)


def removal_steps(places):
    """For each place the step of its removal in a crew with removals at all these places."""
    steps = {}
    for worker, at in places:
        ahead = [other for other in steps if other[0] == worker]
        steps[(worker, at)] = (worker, at + len(ahead))
    return steps


def has_stray(states, left_out):
    """Whether some schedule of a crew without these steps has a stray."""
    seen = {0: True}
    waiting = [0]
    while waiting:
        number = waiting.pop()
        for index, astray, behind in states.ways_from(number):
            if astray:
                return True
            reached = states.leave_out(behind, index, left_out)
            if reached not in seen:
                seen[reached] = True
                waiting.append(reached)
    return False


def fewest_removals(crew):
    """The shortest list of places with which no schedule has a stray, or None."""
    places = removal_places(crew)
    if len(places) > MOST_PLACES:
        raise TooMany(MOST_PLACES)
    steps = removal_steps(places)
    # What is found for one choice is used for the others: they differ only in
    # which of the removals are left out.
    states = States(with_removals(crew, places))
    for choice in choices_of(places):
        left_out = [steps[place] for place in places if place not in choice]
        if not has_stray(states, left_out):
            return choice
    return None
