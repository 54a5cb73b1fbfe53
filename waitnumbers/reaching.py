"""Which registrations a process can still name, and the fewest closings that end one."""

from waitnumbers.checks import is_integer
from waitnumbers.errors import NoRegistration


def set_named(system, set_name):
    """The set that has any object as its name, or None."""
    if not isinstance(set_name, tuple) or len(set_name) != 2:
        return None
    process, number = set_name
    if process not in system or not system.is_table_number(number):
        return None
    thing = system.tables[process][number]
    if thing not in system.sets or system.name_of(thing) != set_name:
        return None
    return thing


def registration_named(system, set_name, label):
    """The set and the registration that any objects name."""
    holder = set_named(system, set_name)
    # A label that is no integer might equal one, as True equals 1.
    if holder is None or not is_integer(label) or label not in system.sets[holder].entries:
        raise NoRegistration(set_name, label)
    return (holder, system.sets[holder].entries[label])


def are_held_together(system, thing, other):
    """Whether some process has numbers of both things."""
    return any([thing in table and other in table for table in system.tables.values()])


def is_reached(system, set_name, label):
    """Whether some process can name a registration by its number and its source."""
    holder, kept = registration_named(system, set_name, label)
    return any([
        holder in table and table[kept.number] == kept.source
        for table in system.tables.values()
    ])


def is_sealed(system, set_name, label):
    """Whether no process has numbers of both a registration's set and its source."""
    holder, kept = registration_named(system, set_name, label)
    return not are_held_together(system, holder, kept.source)


def closings(system, set_name, label):
    """The fewest numbers, each with its process, whose closing ends a registration."""
    holder, kept = registration_named(system, set_name, label)
    of_source = system.numbers_of(kept.source)
    of_set = system.numbers_of(holder)
    return of_source if len(of_source) <= len(of_set) else of_set
