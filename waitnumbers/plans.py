"""Endings: rows of calls that end one registration and leave everything else as it was."""

from waitnumbers.checks import is_row
from waitnumbers.reaching import registration_named


def replaced(table, number, thing):
    """A table in which a number means another thing, or is free."""
    return [thing if at == number else meant for at, meant in enumerate(table)]


def removal(process, table, holder, kept):
    """Make the registration's number mean its source, and remove the registration."""
    # The copy overwrites that number, so neither thing may be named by it.
    rest = replaced(table, kept.number, None)
    return [
        ("copy", process, rest.index(kept.source), kept.number),
        ("remove", process, rest.index(holder), kept.number),
    ]


def restoring(process, table, number):
    """The call that makes a number what it is in this table, by another number if it is open."""
    if table[number] is None:
        return ("close", process, number)
    return ("copy", process, replaced(table, number, None).index(table[number]), number)


def can_be_restored(table, number):
    """Whether a number is free, or its thing has another number to copy it back from."""
    return table[number] is None or table.count(table[number]) > 1


def way_by_fork(process, forked, table, holder, kept):
    """Remove in a forked process, so that nothing needs to be restored."""
    calls = [("fork", process)]
    if table[kept.number] == holder:
        taken = (kept.number, table.index(kept.source))
        third = [number for number in range(len(table)) if number not in taken][0]
        calls.append(("copy", forked, kept.number, third))
        table = replaced(table, third, holder)
    return [*calls, *removal(forked, table, holder, kept), ("end", forked)]


def way_by_spare(process, table, holder, kept):
    """Copy aside what the registration's number means, and restore it behind the removal."""
    spares = [number for number in range(len(table)) if can_be_restored(table, number)]
    if spares == []:
        return None
    spare = spares[0]
    aside = replaced(table, spare, table[kept.number])
    return [
        ("copy", process, kept.number, spare),
        *removal(process, aside, holder, kept),
        ("copy", process, spare, kept.number),
        restoring(process, table, spare),
    ]


def shortest_way(system, process, holder, kept):
    """A shortest ending by the calls of this process and its forks, or None."""
    table = system.tables[process]
    if holder not in table or kept.source not in table:
        return None
    if table[kept.number] == kept.source:
        return [("remove", process, table.index(holder), kept.number)]
    if can_be_restored(table, kept.number):
        return [*removal(process, table, holder, kept), restoring(process, table, kept.number)]
    forked = system.free_process()
    if forked is not None:
        return way_by_fork(process, forked, table, holder, kept)
    return way_by_spare(process, table, holder, kept)


def ending(system, set_name, label):
    """A shortest row of calls that ends a registration and nothing else, or None."""
    holder, kept = registration_named(system, set_name, label)
    ways = [shortest_way(system, process, holder, kept) for process in system.alive()]
    return min([way for way in ways if way is not None], key=len, default=None)


def is_call_of(call, own):
    """Whether a call is made by, and asks for, no process but these."""
    return call[1] in own and (call[0] != "same" or call[3] in own)


def is_done_by_one(system, calls):
    """Do a row of calls, and return whether it has no error and is of one process and its forks."""
    own = [call[1] for call in calls[:1]]
    for call in calls:
        if not is_call_of(call, own):
            return False
        answer = system.answer(call)
        if isinstance(answer, str):
            return False
        if call[0] == "fork":
            own.append(answer)
    return True


def shows_ending(system, set_name, label, calls):
    """Whether any object is a row of calls that ends a registration and nothing else."""
    holder, kept = registration_named(system, set_name, label)
    if not is_row(calls):
        return False
    behind = system.twin()
    if not is_done_by_one(behind, calls):
        return False
    wanted = system.twin()
    wanted.sets[holder].drop(label)
    # Equal systems may have new things in the place of old ones; these tables may not.
    return behind.tables == wanted.tables and behind == wanted
