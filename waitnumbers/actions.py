"""Calls as objects: how they are done, and what they answer."""

from waitnumbers.errors import BadCount
from waitnumbers.errors import BadLabel
from waitnumbers.errors import BadWord
from waitnumbers.errors import Finished
from waitnumbers.errors import Full
from waitnumbers.errors import NoNumber
from waitnumbers.errors import NoProcess
from waitnumbers.errors import NoRoom
from waitnumbers.errors import NotASet
from waitnumbers.errors import NotASource
from waitnumbers.errors import NotOpen
from waitnumbers.errors import NotRegistered
from waitnumbers.errors import Registered
from waitnumbers.errors import Taken


def do_new_source(system, process):
    return system.new_source(process)


def do_new_set(system, process):
    return system.new_set(process)


def do_copy(system, process, number, to):
    return system.copy(process, number, to)


def do_close(system, process, number):
    return system.close(process, number)


def do_fork(system, process):
    return system.fork(process)


def do_end(system, process):
    return system.end(process)


def do_arrive(system, process, number, many):
    return system.arrive(process, number, many)


def do_finish(system, process, number):
    return system.finish(process, number)


def do_read(system, process, number, many):
    return system.read(process, number, many)


def do_add(system, process, set_number, number, label, word):
    return system.add(process, set_number, number, label, word=word)


def do_change(system, process, set_number, number, word):
    return system.change(process, set_number, number, word=word)


def do_remove(system, process, set_number, number):
    return system.remove(process, set_number, number)


def do_wait(system, process, set_number, most):
    return system.wait(process, set_number, most)


def do_numbers(system, process):
    return system.numbers(process)


def do_same(system, process, number, other, other_number):
    return system.same(process, number, other, other_number)


def do_units(system, process, number):
    return system.units(process, number)


ACTIONS = {
    "new_source": do_new_source,
    "new_set": do_new_set,
    "copy": do_copy,
    "close": do_close,
    "fork": do_fork,
    "end": do_end,
    "arrive": do_arrive,
    "finish": do_finish,
    "read": do_read,
    "add": do_add,
    "change": do_change,
    "remove": do_remove,
    "wait": do_wait,
    "numbers": do_numbers,
    "same": do_same,
    "units": do_units,
}


def returned(system, call):
    """Do a call, and return what it returns."""
    action = ACTIONS[call[0]]
    arguments = call[1:]
    return action(system, *arguments)


def answered(system, call):
    """Do a call, and return its answer."""
    try:
        return returned(system, call)
    except NoProcess:
        return "NoProcess"
    except NotOpen:
        return "NotOpen"
    except NoNumber:
        return "NoNumber"
    except NotASource:
        return "NotASource"
    except NotASet:
        return "NotASet"
    except Full:
        return "Full"
    except NoRoom:
        return "NoRoom"
    except BadCount:
        return "BadCount"
    except BadLabel:
        return "BadLabel"
    except BadWord:
        return "BadWord"
    except Finished:
        return "Finished"
    except Registered:
        return "Registered"
    except Taken:
        return "Taken"
    except NotRegistered:
        return "NotRegistered"
