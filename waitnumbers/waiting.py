"""Waiting sets: the registrations in one set, and its queue."""


class Registration:
    """A registration; it is replaced and never changed, so twins may share it."""

    def __init__(self, number, source, word, armed):
        self.number = number
        self.source = source
        self.word = word
        self.armed = armed


class WaitingSet:
    """The registrations of a set by their labels, and the labels that are pending."""

    def __init__(self):
        # A dict keeps the order of adding, also where an entry is replaced.
        self.entries = {}
        self.queue = []

    def copied(self):
        """A set with the same registrations and the same queue."""
        other = WaitingSet()
        other.entries = dict(self.entries)
        other.queue = list(self.queue)
        return other

    def label_of(self, number, source):
        """The label of the registration with this key, or None."""
        for label, kept in self.entries.items():
            if kept.number == number and kept.source == source:
                return label
        return None

    def put(self, label, kept, ready):
        """Add a registration, or replace the one with this label in its place."""
        self.entries[label] = kept
        if ready:
            self.append_pending(label)

    def append_pending(self, label):
        """Append a registration to the queue; a pending one keeps its place."""
        if label not in self.queue:
            self.queue.append(label)

    def drop(self, label):
        """End the registration with this label."""
        del self.entries[label]
        self.queue = [pending for pending in self.queue if pending != label]

    def drop_source(self, source):
        """End all registrations of a source."""
        labels = [label for label, kept in self.entries.items() if kept.source == source]
        for label in labels:
            self.drop(label)

    def notice(self, source):
        """Append the armed registrations of a source to which something happened."""
        for label, kept in self.entries.items():
            if kept.source == source and kept.armed:
                self.append_pending(label)

    def take_reports(self, most, sources):
        """Take registrations from the front of the queue, and report them."""
        reports = []
        # Only what is pending now: what is appended again is not taken twice.
        pending = list(self.queue)
        for label in pending:
            if len(reports) == most:
                break
            self.queue = self.queue[1:]
            unread, finished = sources[self.entries[label].source]
            if unread > 0 or finished:
                reports.append((label, unread, finished))
                self.settle(label)
        return reports

    def settle(self, label):
        """Do what the word of a registration says behind its report."""
        kept = self.entries[label]
        if kept.word == "level":
            self.queue.append(label)
        if kept.word == "once":
            self.entries[label] = Registration(kept.number, kept.source, kept.word, False)

    def contents(self, places):
        """All that equal sets have in common, sources by their places."""
        entries = [
            (label, kept.number, places[kept.source], kept.word, kept.armed)
            for label, kept in self.entries.items()
        ]
        return (tuple(entries), tuple(self.queue))
