"""Tables of lamps and looks, and their text."""

from dimmerlog.errors import DimmerError, DuplicateName, InvalidLine, TooMany
from dimmerlog.names import check_all_known, check_known, check_new, distinct_names

LIMIT = 24


class Table:
    """Lamps and looks in a given order, where each look shows some of the lamps."""

    def __init__(self, lamps, looks):
        if len(lamps) > LIMIT or len(looks) > LIMIT:
            raise TooMany(LIMIT)
        self.lamps = distinct_names(lamps)
        self._shown = {}
        for look, shown in looks:
            check_new(look, self._shown)
            _check_shown(shown, self.lamps)
            self._shown[look] = _chosen_of(self.lamps, shown)
        self.looks = tuple(self._shown)

    @staticmethod
    def read(text):
        """Return the table that the text writes; raise InvalidLine for its first wrong line."""
        first, *others = text.split("\n")
        table = _read_lamps(first)
        for line, row in enumerate(others, start=2):
            table = _read_look(table, line, row)
        return table

    def __str__(self):
        lamps = " ".join(["lamps", *self.lamps])
        looks = [" ".join(["look", look, *shown]) for look, shown in self.rows()]
        return "\n".join([lamps, *looks])

    def __getitem__(self, at):
        lamp, look = at
        check_known(lamp, self.lamps)
        check_known(look, self.looks)
        return lamp in self._shown[look]

    # Without this, Python would take a loop over a table for table[0], table[1] and so on.
    def __iter__(self):
        raise TypeError("a table is not iterated over")

    def __len__(self):
        return len(self.looks)

    def __eq__(self, other):
        return (isinstance(other, Table) and self.lamps == other.lamps
                and self.looks == other.looks and self._shown == other._shown)

    def shown(self, look):
        """Return the lamps that the look shows."""
        check_known(look, self.looks)
        return self._shown[look]

    def seen(self, lamp):
        """Return the looks that show the lamp."""
        check_known(lamp, self.lamps)
        return tuple([look for look in self.looks if lamp in self._shown[look]])

    def rows(self):
        """Return a list of pairs: each look, and the lamps that it shows."""
        return [(look, self._shown[look]) for look in self.looks]

    def without(self, *lamps):
        """Return the table without these lamps."""
        check_all_known(lamps, self.lamps)
        kept = [lamp for lamp in self.lamps if lamp not in lamps]
        return Table(kept, [(look, _chosen_of(shown, kept)) for look, shown in self.rows()])

    def only(self, *looks):
        """Return the table with only these looks."""
        check_all_known(looks, self.looks)
        return Table(self.lamps, [(look, shown) for look, shown in self.rows() if look in looks])

    def with_look(self, name, *lamps):
        """Return the table with one more look at the end, which shows these lamps."""
        return Table(self.lamps, self.rows() + [(name, lamps)])

    def exchanged(self, first, second, *, since=None):
        """Return the table in which two lamps change places from a look on, or in all looks."""
        check_known(first, self.lamps)
        check_known(second, self.lamps)
        start = 0
        if since is not None:
            check_known(since, self.looks)
            start = self.looks.index(since)
        other = {first: second, second: first}
        rows = self.rows()
        changed = [(look, [other.get(lamp, lamp) for lamp in shown]) for look, shown in rows[start:]]
        return Table(self.lamps, rows[:start] + changed)

    def alike(self, first, second):
        """Tell whether both looks show the same lamps."""
        check_known(first, self.looks)
        check_known(second, self.looks)
        return self._shown[first] == self._shown[second]

    @property
    def groups(self):
        """A list of tuples of the looks that show the same lamps."""
        kinds = []
        for look in self.looks:
            if self._shown[look] not in kinds:
                kinds.append(self._shown[look])
        return [tuple([look for look, shown in self.rows() if shown == kind]) for kind in kinds]


def _check_shown(shown, lamps):
    """Raise UnknownName or DuplicateName for the first wrong lamp that a look shows."""
    for at, lamp in enumerate(shown):
        check_known(lamp, lamps)
        if lamp in shown[:at]:
            raise DuplicateName(lamp)


def _chosen_of(names, chosen):
    """Return the chosen ones of the names, in the order of the names."""
    return tuple([name for name in names if name in chosen])


def _read_lamps(row):
    """Return the table without looks that the first line of a text writes."""
    word, *lamps = row.split(" ")
    if word != "lamps":
        raise InvalidLine(1)
    try:
        return Table(lamps, [])
    except DimmerError:
        raise InvalidLine(1) from None


def _read_look(table, line, row):
    """Return the table with the look that a further line of a text writes."""
    words = row.split(" ")
    if words[0] != "look" or len(words) < 2:
        raise InvalidLine(line)
    name, *lamps = words[1:]
    try:
        return table.with_look(name, *lamps)
    except DimmerError:
        raise InvalidLine(line) from None
