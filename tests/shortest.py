"""The fewest calls of an ending, searched in another way: by all rows of calls.

Only tables matter here: a state is the tables of all processes, which of them are
the searching one and its forks, and whether the registration was removed.
"""

NEW = "new"


def tables_of(system):
    """The names of things for each process: a tuple of its numbers, None for a free one."""
    tables = []
    for process in range(system.limits[0]):
        if process not in system.alive():
            tables.append(None)
            continue
        table = [None] * system.limits[1]
        for number, kind in system.numbers(process):
            table[number] = system.name(process, number)
        tables.append(tuple(table))
    return tuple(tables)


def with_table(tables, process, table):
    return tuple(table if p == process else kept for p, kept in enumerate(tables))


def with_number(table, number, thing):
    return tuple(thing if n == number else kept for n, kept in enumerate(table))


def steps(state, holder, source, number):
    """The states behind each call that could matter to an ending."""
    tables, own, removed = state
    for p in own:
        table = tables[p]
        for n, thing in enumerate(table):
            if thing is None:
                continue
            yield with_table(tables, p, with_number(table, n, None)), own, removed
            for to in range(len(table)):
                if table[to] != thing:
                    yield with_table(tables, p, with_number(table, to, thing)), own, removed
        if None in table:
            yield with_table(tables, p, with_number(table, table.index(None), NEW)), own, removed
        if None in tables:
            forked = tables.index(None)
            yield with_table(tables, forked, table), tuple(sorted([*own, forked])), removed
        yield with_table(tables, p, None), tuple(q for q in own if q != p), removed
        if not removed and holder in table and table[number] == source:
            yield tables, own, True


def fewest_of(tables, process, holder, source, number, most):
    """The fewest calls of this process and its forks, or None if more than most are needed."""
    things = {thing for table in tables if table for thing in table if thing}
    level = [(tables, (process,), False)]
    seen = set(level)
    for many in range(1, most + 1):
        behind = []
        for state in level:
            for new in steps(state, holder, source, number):
                if new in seen:
                    continue
                if new[0] == tables and new[2]:
                    return many
                # A thing that ended does not come back.
                if not things <= {thing for table in new[0] if table for thing in table}:
                    continue
                seen.add(new)
                behind.append(new)
        level = behind
    return None


def fewest_calls(tables, holder, source, number, most):
    """The fewest calls that end a registration and nothing else, or None if more than most."""
    found = [
        fewest_of(tables, process, holder, source, number, most)
        for process, table in enumerate(tables) if table is not None
    ]
    return min([many for many in found if many is not None], default=None)
