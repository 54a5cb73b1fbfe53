"""What an ending is, told by the second system of model.py, where things are objects."""

from model import Model


def content(row):
    return (row["number"], row["source"], row["label"], row["word"], row["armed"])


def snapshot(model, without):
    """All of a model but one registration; things are compared as themselves."""
    kept = []
    for cell in sorted(model.cells):
        thing = model.cells[cell]
        if thing is not None:
            rows = [content(row) for row in thing.rows if row is not without]
            queue = [row["label"] for row in thing.queue if row is not without]
            kept.append((cell, thing, thing.units, thing.finished, rows, queue))
    return (sorted(model.living), kept)


def is_own(call, own):
    return call[1] in own and (call[0] != "same" or call[3] in own)


def is_ending(limits, done, set_name, label, row):
    """Whether a row of calls is an ending in the system in which these were done."""
    model = Model(*limits)
    for call in done:
        model.answer(call)
    holder = model.cells[set_name]
    [ended] = [kept for kept in holder.rows if kept["label"] == label]
    before = snapshot(model, ended)
    own = [call[1] for call in row[:1]]
    for call in row:
        if not is_own(call, own):
            return False
        answer = model.answer(call)
        if isinstance(answer, str):
            return False
        if call[0] == "fork":
            own.append(answer)
    return not any(kept is ended for kept in holder.rows) and snapshot(model, ended) == before
