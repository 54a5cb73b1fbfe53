"""Rows of calls, and the texts of calls and of answers."""

from waitnumbers.checks import ARGUMENTS
from waitnumbers.checks import check_calls
from waitnumbers.checks import is_word
from waitnumbers.errors import BadText

MOST_DIGITS = 9
NONE_TEXT = "-"


def answers(system, calls):
    """Do a row of calls, and return the list of their answers."""
    check_calls(calls)
    return [system.answer(call) for call in calls]


def show_part(part):
    """The text of a name or of an argument."""
    if part is None:
        return NONE_TEXT
    return str(part)


def show_call(call):
    """The text of a call."""
    return " ".join([show_part(part) for part in call])


def show_calls(calls):
    """The text of a row of calls."""
    return "\n".join([show_call(call) for call in calls])


def is_integer_text(text):
    """Whether a string is written as an integer from 0 to 999,999,999."""
    # isdigit alone would also take the digits of other scripts.
    if not text.isascii() or not text.isdigit() or len(text) > MOST_DIGITS:
        return False
    return text == "0" or text[0] != "0"


def is_argument_text(kind, text):
    """Whether a string is the text of an argument of this kind."""
    if kind == "word":
        return is_word(text)
    if kind == "optional" and text == NONE_TEXT:
        return True
    return is_integer_text(text)


def read_argument(kind, text):
    """The argument that a text of this kind means."""
    if kind == "word":
        return text
    if text == NONE_TEXT:
        return None
    return int(text)


def call_or_none(text):
    """The call that a string is the text of, or None."""
    name, *parts = text.split(" ")
    if name not in ARGUMENTS:
        return None
    kinds = ARGUMENTS[name]
    if len(parts) != len(kinds):
        return None
    if not all([is_argument_text(kind, part) for kind, part in zip(kinds, parts)]):
        return None
    arguments = [read_argument(kind, part) for kind, part in zip(kinds, parts)]
    return (name, *arguments)


def read_call(text):
    """The call that any object is the text of."""
    if not isinstance(text, str):
        raise BadText(-1)
    call = call_or_none(text)
    if call is None:
        raise BadText(0)
    return call


def read_calls(text):
    """The list of calls that any object is the text of."""
    if not isinstance(text, str):
        raise BadText(-1)
    calls = []
    if text == "":
        return calls
    for at, line in enumerate(text.split("\n")):
        call = call_or_none(line)
        if call is None:
            raise BadText(at)
        calls.append(call)
    return calls


def show_answer(answer):
    """The text of an answer."""
    if answer is None:
        return "ok"
    if answer is True:
        return "yes"
    if answer is False:
        return "no"
    if isinstance(answer, tuple):
        return ":".join([show_answer(part) for part in answer])
    if answer == []:
        return "none"
    if isinstance(answer, list):
        return " ".join([show_answer(part) for part in answer])
    return str(answer)
