"""What rows of calls can tell of a system, and whether two systems are alike."""

from waitnumbers.reaching import are_held_together
from waitnumbers.reaching import registration_named


def is_quiet_label(system, holder, label):
    """Whether the registration with this label in a set can report only behind a change."""
    waiting = system.sets[holder]
    kept = waiting.entries[label]
    if not kept.armed:
        return True
    finished = system.is_finished(kept.source)
    return finished and kept.word != "level" and label not in waiting.queue


def is_quiet(system, set_name, label):
    """Whether a registration can report again only behind a change."""
    holder, kept = registration_named(system, set_name, label)
    return is_quiet_label(system, holder, label)


def told_of_word(system, holder, label):
    """What can be told of a registration's word, and of whether it is armed."""
    if is_quiet_label(system, holder, label):
        return "quiet"
    kept = system.sets[holder].entries[label]
    if kept.word != "level" and system.is_finished(kept.source):
        return "last"
    return kept.word


def told_of_entry(system, holder, label, places):
    """What can be told of a registration by itself."""
    kept = system.sets[holder].entries[label]
    named = are_held_together(system, holder, kept.source)
    number = kept.number if named else None
    return (label, places[kept.source], number, told_of_word(system, holder, label))


def told_order(system, holder, source):
    """The labels of a source in a set whose order of adding can be told, in this order."""
    if system.is_finished(source):
        return []
    # Armed again only by a change, which none can make of a sealed registration.
    named = are_held_together(system, holder, source)
    return [
        label
        for label, kept in system.sets[holder].entries.items()
        if kept.source == source and (kept.armed or named)
    ]


def told_of_set(system, holder, places):
    """What can be told of a set: its registrations, their orders of adding, its queue."""
    waiting = system.sets[holder]
    entries = [told_of_entry(system, holder, label, places) for label in sorted(waiting.entries)]
    orders = [told_order(system, holder, thing) for thing in places if thing in system.sources]
    return (entries, orders, waiting.queue)


def told(system):
    """All that rows of calls can tell of a system, or None if it is over."""
    if not system:
        return None
    places = system.places()
    kept = [
        system.sources[thing] if thing in system.sources else told_of_set(system, thing, places)
        for thing in places
    ]
    return (system.limits, system.placed_tables(places), kept)


def alike(one, other):
    """Whether every row of calls has the same answers in two systems."""
    return told(one) == told(other)
