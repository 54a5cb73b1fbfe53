"""What any object is asked: whether it is a count, a label, a word, a call."""

from waitnumbers.errors import BadCall

MOST_COUNT = 1000000
MOST_LABEL = 999999
MOST_CALLS = 500
WORDS = ("level", "edge", "once")

# The sixteen calls, with what the text of each argument may be: an optional one
# is an integer or None.
ARGUMENTS = {
    "new_source": ("integer",),
    "new_set": ("integer",),
    "copy": ("integer", "integer", "optional"),
    "close": ("integer", "integer"),
    "fork": ("integer",),
    "end": ("integer",),
    "arrive": ("integer", "integer", "integer"),
    "finish": ("integer", "integer"),
    "read": ("integer", "integer", "optional"),
    "add": ("integer", "integer", "integer", "integer", "word"),
    "change": ("integer", "integer", "integer", "word"),
    "remove": ("integer", "integer", "integer"),
    "wait": ("integer", "integer", "integer"),
    "numbers": ("integer",),
    "same": ("integer", "integer", "integer", "integer"),
    "units": ("integer", "integer"),
}


def is_integer(x):
    """Whether any object is an integer; True and False are none."""
    return isinstance(x, int) and not isinstance(x, bool)


def is_between(x, least, most):
    """Whether any object is an integer from least to most."""
    return is_integer(x) and least <= x <= most


def is_count(x):
    """Whether any object is a count."""
    return is_between(x, 1, MOST_COUNT)


def is_label(x):
    """Whether any object is a label."""
    return is_between(x, 0, MOST_LABEL)


def is_word(x):
    """Whether any object is a word."""
    return x in WORDS


def is_call(x):
    """Whether any object is a tuple of a call's name and all its arguments."""
    if not isinstance(x, tuple) or len(x) == 0:
        return False
    name = x[0]
    if not isinstance(name, str) or name not in ARGUMENTS:
        return False
    return len(x) == 1 + len(ARGUMENTS[name])


def is_row(x):
    """Whether any object is a list or tuple of calls that is not too long."""
    if not isinstance(x, (list, tuple)) or len(x) > MOST_CALLS:
        return False
    return all([is_call(call) for call in x])


def check_calls(calls):
    """Raise BadCall of the first object in a row that is no call."""
    for call in calls:
        if not is_call(call):
            raise BadCall(call)
