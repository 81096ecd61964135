"""Notes: pairs of looks of which the first is known to be before the second."""

from dimmerlog.errors import InvalidNote
from dimmerlog.names import check_all_known, check_name
from dimmerlog.steps import reached


class Notes:
    """Any number of notes."""

    def __init__(self, *pairs):
        for before, after in pairs:
            check_name(before)
            check_name(after)
            if before == after:
                raise InvalidNote(before, after)
        self.pairs = tuple(sorted(set(pairs)))

    def __add__(self, other):
        pairs = self.pairs + other.pairs
        return Notes(*pairs)

    def __sub__(self, other):
        pairs = [pair for pair in self.pairs if pair not in other.pairs]
        return Notes(*pairs)

    def __neg__(self):
        pairs = [(after, before) for before, after in self.pairs]
        return Notes(*pairs)

    def __contains__(self, x):
        return x in self.pairs

    def __iter__(self):
        return iter(self.pairs)

    def __len__(self):
        return len(self.pairs)

    def __eq__(self, other):
        return isinstance(other, Notes) and self.pairs == other.pairs

    def __str__(self):
        return ", ".join([f"{before} < {after}" for before, after in self.pairs])

    def about(self, look):
        """Return the notes that name the look."""
        pairs = [pair for pair in self.pairs if look in pair]
        return Notes(*pairs)

    def closed(self):
        """Return each pair of different names for which notes lead from the first to the second."""
        leads = {name: [] for pair in self.pairs for name in pair}
        for before, after in self.pairs:
            leads[before].append(after)
        pairs = [(name, other) for name in leads for other in reached(leads, name, None) if other != name]
        return Notes(*pairs)


def pairs_in(notes):
    """Return the notes, or None, as a tuple of pairs."""
    return () if notes is None else notes.pairs


def pairs_of(table, notes):
    """Return the notes, or None, as a tuple of pairs; raise UnknownName unless the table has their looks."""
    pairs = pairs_in(notes)
    for pair in pairs:
        check_all_known(pair, table.looks)
    return pairs
