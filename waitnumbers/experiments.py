"""Parting rows: calls by which two systems that are not alike can be told apart."""

from waitnumbers.alike import alike
from waitnumbers.alike import told_of_set
from waitnumbers.checks import is_row
from waitnumbers.reaching import are_held_together
from waitnumbers.trials import Trial

MOST_PARTING = 60


def up_to_difference(one, other, calls):
    """The calls up to the first one that has different answers, or None if none has."""
    left = one.twin()
    right = other.twin()
    for at, call in enumerate(calls):
        if left.answer(call) != right.answer(call):
            return calls[:at + 1]
    return None


def looks(system):
    """Calls that tell all of the tables and of the units, and change nothing."""
    cells = [(process, number) for process in system.alive() for number, kind in system.numbers(process)]
    return [
        *[("numbers", process) for process in range(system.MOST_PROCESSES)],
        *[("same", process, number, *cell) for process, number in cells for cell in cells],
        *[("units", process, number) for process, number in cells],
    ]


def row_of_looks(one, other):
    """A look with different answers as a row, or None."""
    for call in looks(one):
        if one.answer(call) != other.answer(call):
            return [call]
    return None


def row_of_limits(one, other):
    """A row that tells of other limits, or None; it is for systems whose looks are the same."""
    if one.limits == other.limits:
        return None
    process = one.alive()[0]
    if one.limits[0] != other.limits[0]:
        return [("fork", process) for another in range(one.MOST_PROCESSES)]
    beyond = min(one.limits[1], other.limits[1])
    opened = [number for number, kind in one.numbers(process)]
    if opened == []:
        return [("new_source", process), ("copy", process, 0, beyond)]
    return [("copy", process, opened[0], beyond)]


def row_of_label(system, holder, source, label):
    """A row that tells whether a set has a registration of this source with this label."""
    trial = Trial(system)
    process, number = system.name_of(holder)
    trial.give_room(process, number, source)
    trial.add_fresh(process, number, label)
    return trial.calls


def row_of_source(system, holder, sources, label):
    """A row that tells which of two sources a label has: it is free again if its source ends."""
    trial = Trial(system)
    ended, kept = sorted(sources, key=lambda source: len(system.numbers_of(source)))
    for process, number in system.numbers_of(ended):
        trial.do("close", process, number)
    process, number = system.name_of(holder)
    trial.give_room(process, number, kept)
    trial.add_fresh(process, number, label)
    return trial.calls


def process_with(system, holder, source):
    """The first process with numbers of a set and of a source, or None."""
    for process in system.alive():
        if holder in system.tables[process] and source in system.tables[process]:
            return process
    return None


def row_of_number(system, holder, source, number, label):
    """A row that tells whether a label has this number: it is free again behind the removal."""
    trial = Trial(system)
    process = process_with(system, holder, source)
    set_number = trial.put(process, holder, source, number)
    trial.do("remove", process, set_number, number)
    trial.do("add", process, set_number, number, label, "level")
    return trial.calls


def row_of_word(system, holder, source):
    """A row that tells the words of a source's registrations, and which of them are quiet."""
    trial = Trial(system)
    trial.arrive_at(source)
    trial.wait_for_all(holder)
    trial.wait_for_all(holder)
    trial.arrive_at(source)
    trial.wait_for_all(holder)
    return trial.calls


def row_of_order(system, holder, source, numbers):
    """A row that tells in which order registrations were added, if need be of quiet ones.

    These have the numbers. All of the source leave the queue, and come again together.
    """
    trial = Trial(system)
    process = process_with(system, holder, source)
    for number in numbers:
        set_number = trial.put(process, holder, source, number)
        trial.do("change", process, set_number, number, "edge")
    trial.read_all(source)
    trial.wait_for_all(holder)
    trial.arrive_at(source)
    trial.wait_for_all(holder)
    return trial.calls


def row_of_queue(system, holder, labels):
    """A row that tells which of two labels is ahead in a queue, or whether one is in it.

    One label may be None: then a source that is made for this comes behind the queue.
    """
    trial = Trial(system)
    entries = system.sets[holder].entries
    sources = [entries[label].source for label in labels if label is not None]
    if None in labels:
        process, number = system.name_of(holder)
        trial.give_room(process, number, sources[0])
        unused = [label for label in range(len(entries) + 1) if label not in entries]
        fresh = trial.add_fresh(process, number, unused[0])
        trial.do("arrive", process, fresh, 1)
    for source in sources:
        trial.arrive_at(source)
    trial.wait_for_all(holder)
    return trial.calls


def first_difference(row, other):
    """What two lists have at the first place where they differ, None behind the end."""
    for at in range(max(len(row), len(other))):
        pair = [part[at] if at < len(part) else None for part in (row, other)]
        if pair[0] != pair[1]:
            return pair
    return None


def row_of_entry(system, holder, entry, other):
    """A row that tells of two registrations with one label, or None."""
    things = system.things()
    label, place, number, word = entry
    source = things[place]
    if place != other[1]:
        return row_of_source(system, holder, [source, things[other[1]]], label)
    if number != other[2]:
        return row_of_number(system, holder, source, number, label)
    if word != other[3]:
        return row_of_word(system, holder, source)
    return None


def row_of_entries(system, holder, entries, others):
    """A row that tells of other registrations, or None."""
    things = system.things()
    labels = [entry[0] for entry in entries]
    other_labels = [entry[0] for entry in others]
    for label, place, number, word in [*entries, *others]:
        if label not in labels or label not in other_labels:
            return row_of_label(system, holder, things[place], label)
    for entry, other in zip(entries, others):
        row = row_of_entry(system, holder, entry, other)
        if row is not None:
            return row
    return None


def row_of_orders(system, holder, orders, others):
    """A row that tells of other orders of adding, or None."""
    entries = system.sets[holder].entries
    for order, other in zip(orders, others):
        labels = first_difference(order, other)
        if labels is not None:
            source = entries[labels[0]].source
            # None can change a sealed one, but all of these are armed.
            named = are_held_together(system, holder, source)
            numbers = [entries[label].number for label in labels if named]
            return row_of_order(system, holder, source, numbers)
    return None


def row_of_set(one, other, holder, partner):
    """A row that tells of what two systems keep in a set, or None."""
    entries, orders, queue = told_of_set(one, holder, one.places())
    entries_there, orders_there, queue_there = told_of_set(other, partner, other.places())
    if entries != entries_there:
        return row_of_entries(one, holder, entries, entries_there)
    if orders != orders_there:
        return row_of_orders(one, holder, orders, orders_there)
    if queue != queue_there:
        return row_of_queue(one, holder, first_difference(queue, queue_there))
    return None


def row_of_sets(one, other):
    """A row that tells of what two systems keep in their sets; all else is the same."""
    for holder, partner in zip(one.things(), other.things()):
        if holder in one.sets:
            row = row_of_set(one, other, holder, partner)
            if row is not None:
                return row
    return None


def parting(one, other):
    """A row of calls that tells two systems apart, or None if none does."""
    if alike(one, other):
        return None
    # Each of these tells something only where all before it is the same.
    for way in (row_of_looks, row_of_limits, row_of_sets):
        row = way(one, other)
        if row is not None:
            return up_to_difference(one, other, row)
    return None


def shows_parting(one, other, calls):
    """Whether any object is a row of calls that tells two systems apart by its last call."""
    if not is_row(calls) or not 1 <= len(calls) <= MOST_PARTING:
        return False
    row = up_to_difference(one, other, calls)
    return row is not None and len(row) == len(calls)
