"""The console: two systems, left and right, that are told what to do by texts."""

from waitnumbers.alike import alike
from waitnumbers.alike import is_quiet
from waitnumbers.calls import call_or_none
from waitnumbers.calls import is_integer_text
from waitnumbers.calls import show_answer
from waitnumbers.calls import show_call
from waitnumbers.errors import BadCommand
from waitnumbers.experiments import parting
from waitnumbers.plans import ending
from waitnumbers.reaching import closings
from waitnumbers.reaching import is_reached
from waitnumbers.reaching import is_sealed
from waitnumbers.system import System

SIDES = ("left", "right")


def show_row(calls):
    """The texts of a row of calls, or of None."""
    if calls is None:
        return "none"
    return "; ".join([show_call(call) for call in calls])


def say_reached(system, set_name, label):
    return show_answer(is_reached(system, set_name, label))


def say_sealed(system, set_name, label):
    return show_answer(is_sealed(system, set_name, label))


def say_quiet(system, set_name, label):
    return show_answer(is_quiet(system, set_name, label))


def say_closings(system, set_name, label):
    return show_answer(closings(system, set_name, label))


def say_ending(system, set_name, label):
    return show_row(ending(system, set_name, label))


# The commands that are asked of one registration.
QUESTIONS = {
    "reached": say_reached,
    "sealed": say_sealed,
    "quiet": say_quiet,
    "closings": say_closings,
    "ending": say_ending,
}


def place_or_none(text, many):
    """The side and so many integers that a text has, as a tuple, or None."""
    side, *parts = text.split(" ")
    if side not in SIDES or len(parts) != many:
        return None
    if not all([is_integer_text(part) for part in parts]):
        return None
    return (side, *[int(part) for part in parts])


class Console:
    """Two systems with the same limits."""

    def __init__(self, *, processes=4, numbers=8):
        self.sides = {side: System(processes=processes, numbers=numbers) for side in SIDES}

    def say(self, command):
        """Do a command, and return what it answers."""
        answer = self.answer_or_none(command) if isinstance(command, str) else None
        if answer is None:
            raise BadCommand(command)
        return answer

    def answer_or_none(self, command):
        """What a string answers as a command, or None if it is none."""
        if command == "alike":
            return show_answer(alike(self.sides["left"], self.sides["right"]))
        if command == "part":
            return show_row(parting(self.sides["left"], self.sides["right"]))
        word, gap, rest = command.partition(" ")
        if word in SIDES:
            return self.call_answer((word,), rest)
        if word == "both":
            return self.call_answer(SIDES, rest)
        if word == "row":
            return self.row_answer(rest)
        if word in QUESTIONS:
            return self.question_answer(word, rest)
        return None

    def call_answer(self, sides, text):
        """What some sides answer to the text of a call, or None if it is none."""
        call = call_or_none(text)
        if call is None:
            return None
        return " | ".join([show_answer(self.sides[side].answer(call)) for side in sides])

    def row_answer(self, text):
        """The queue of a set, or None if the text names no number of a side."""
        place = place_or_none(text, 2)
        if place is None:
            return None
        side, process, number = place
        return show_answer(self.sides[side].row_of(process, number))

    def question_answer(self, word, text):
        """What is asked of a registration, or None if the text names none of a side."""
        place = place_or_none(text, 3)
        if place is None:
            return None
        side, process, number, label = place
        action = QUESTIONS[word]
        return action(self.sides[side], (process, number), label)
