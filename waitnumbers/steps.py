"""Steps of workers: what they are, when they are possible, and what they do."""

from waitnumbers.checks import is_call
from waitnumbers.errors import BadStep

# How many parts stand behind the name of each step.
PARTS = {"take": 1, "read": 1, "close": 0, "remove": 1, "make": 0, "watch": 3, "call": 1}


class Hand:
    """What a worker keeps, and the index of its next step; replaced and never changed."""

    def __init__(self, at, number, source, fresh):
        self.at = at
        self.number = number
        self.source = source
        self.fresh = fresh


def is_step(x):
    """Whether any object is a step."""
    if not isinstance(x, tuple) or len(x) == 0:
        return False
    name = x[0]
    if not isinstance(name, str) or name not in PARTS or len(x) != 1 + PARTS[name]:
        return False
    return name != "call" or is_call(x[1])


def check_workers(workers):
    """Raise BadStep of the first object in the steps of workers that is none."""
    for index, (process, steps) in enumerate(workers):
        for at, step in enumerate(steps):
            if not is_step(step):
                raise BadStep(index, at)


def call_of(process, step, hand):
    """The call by which a step is done, or None if it lacks a number."""
    name = step[0]
    if name == "call":
        return step[1]
    if name == "make":
        return ("new_source", process)
    if name == "take":
        return ("wait", process, step[1], 1)
    if name == "watch":
        return None if hand.fresh is None else ("add", process, step[1], hand.fresh, *step[2:])
    if hand.number is None:
        return None
    if name == "remove":
        return ("remove", process, step[1], hand.number)
    return (name, process, hand.number, *step[1:])


def is_possible(system, process, step):
    """Whether a step can be done: a take that has nothing to take waits."""
    if step[0] != "take":
        return True
    answer = system.twin().answer(("wait", process, step[1], 1))
    return isinstance(answer, list) and len(answer) > 0


def is_astray(system, process, step, hand):
    """Whether a step acts on a number that means another thing than the source taken."""
    if step[0] not in ("read", "close", "remove") or hand.number is None or process not in system:
        return False
    thing = system.tables[process][hand.number]
    return thing is not None and thing != hand.source


def do_step(system, process, step, hand):
    """Do a possible step, and return what the worker keeps behind it."""
    call = call_of(process, step, hand)
    answer = None if call is None else system.answer(call)
    if step[0] == "take":
        label = answer[0][0]
        kept = system.set_at(process, step[1]).entries[label]
        return Hand(hand.at + 1, kept.number, kept.source, hand.fresh)
    if step[0] == "make" and not isinstance(answer, str):
        return Hand(hand.at + 1, hand.number, hand.source, answer)
    return Hand(hand.at + 1, hand.number, hand.source, hand.fresh)
