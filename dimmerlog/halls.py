"""Halls: logs that grow."""

from dimmerlog.failures import check_most, fewest_failed
from dimmerlog.names import check_known
from dimmerlog.notes import Notes, pairs_of
from dimmerlog.solving import order_of, relation, solve
from dimmerlog.steps import check_pair
from dimmerlog.tables import Table


def _add_lamp(table, notes, name):
    """Return the table with one more lamp, and the notes."""
    return Table((*table.lamps, name), table.rows()), notes


def _add_look(table, notes, name, *lamps):
    """Return the table with one more look, and the notes."""
    return table.with_look(name, *lamps), notes


def _remove_lamp(table, notes, name):
    """Return the table without the lamp, and the notes."""
    return table.without(name), notes


def _remove_look(table, notes, name):
    """Return the table without the look, and the notes that do not name it."""
    check_known(name, table.looks)
    others = [look for look in table.looks if look != name]
    return table.only(*others), notes - notes.about(name)


def _add_note(table, notes, before, after):
    """Return the table, and the notes with this one."""
    check_pair(table, (before, after))
    return table, notes + Notes((before, after))


def _remove_note(table, notes, before, after):
    """Return the table, and the notes without this one."""
    check_pair(table, (before, after))
    return table, notes - Notes((before, after))


# Each function takes a table, notes and what stands behind the word, and returns a new table and new notes.
CHANGES = {
    "lamp": _add_lamp, "look": _add_look, "unlamp": _remove_lamp, "unlook": _remove_look,
    "note": _add_note, "forget": _remove_note,
}


class Hall:
    """Lamps, looks and notes, whose changes can be undone."""

    def __init__(self):
        # The present table and notes, and those from before each change that can be undone.
        self._present = (Table((), ()), Notes())
        self._past = []
        self._most = 2

    @staticmethod
    def of(table, notes=None):
        """Return a new hall with the lamps and looks of the table and the notes."""
        pairs = pairs_of(table, notes)
        hall = Hall()
        hall._present = (table, Notes(*pairs))
        return hall

    def add_lamp(self, name):
        """Add a lamp, which no look shows, at the end."""
        self.change(("lamp", name))

    def add_look(self, name, *lamps):
        """Add a look, which shows these lamps, at the end."""
        self.change(("look", name, *lamps))

    def remove_lamp(self, name):
        """Remove a lamp, also from the looks that show it."""
        self.change(("unlamp", name))

    def remove_look(self, name):
        """Remove a look and all notes that name it."""
        self.change(("unlook", name))

    def note(self, before, after):
        """Add a note."""
        self.change(("note", before, after))

    def forget(self, before, after):
        """Remove a note."""
        self.change(("forget", before, after))

    def __setitem__(self, at, worth):
        lamp, look = at
        table, notes = self._present
        check_known(lamp, table.lamps)
        check_known(look, table.looks)
        rows = [(other, _switched(shown, lamp, worth) if other == look else shown) for other, shown in table.rows()]
        self._go_on((Table(table.lamps, rows), notes))

    def change(self, *changes):
        """Make several changes, which together are one change."""
        self._go_on(self._after(changes))

    def undo(self):
        """Restore what was before the last change; return False if there is none."""
        if len(self._past) == 0:
            return False
        self._present = self._past.pop()
        return True

    @property
    def changes(self):
        """The number of changes that can be undone."""
        return len(self._past)

    @property
    def table(self):
        """The present table."""
        return self._present[0]

    @property
    def known(self):
        """The present notes."""
        return self._present[1]

    @property
    def most(self):
        """How many failed lamps are looked for."""
        return self._most

    @most.setter
    def most(self, value):
        check_most(value)
        self._most = value

    def set_most(self, value):
        """Say how many failed lamps are looked for."""
        self.most = value

    def solution(self):
        """Return the Solution of the present table and notes."""
        return solve(self.table, self.known)

    def best_order(self):
        """Return the least order that fits; raise NoOrder if there is none."""
        return order_of(self.table, self.known)

    def relation(self, first, second):
        """Return "before", "after" or "open" for two looks."""
        return relation(self.table, self.known, first, second)

    def failed(self):
        """Return a Failure for the present table and notes."""
        return fewest_failed(self.table, self.known, most=self.most)

    def tried(self, *changes):
        """Return the Solution that the hall would have after the changes, which are not made."""
        table, notes = self._after(changes)
        return solve(table, notes)

    def state(self):
        """Return a value from which `restore` restores the present and what can be undone."""
        return self._present, tuple(self._past)

    def restore(self, state):
        """Restore what was when `state` returned this value."""
        present, past = state
        self._present = present
        self._past = list(past)

    def _go_on(self, present):
        """Go on with another table and other notes; those from before can be restored."""
        self._past.append(self._present)
        self._present = present

    def _after(self, changes):
        """Return the table and the notes that the changes would make."""
        table, notes = self._present
        for word, *rest in changes:
            check_known(word, list(CHANGES))
            make = CHANGES[word]
            table, notes = make(table, notes, *rest)
        return table, notes


def _switched(shown, lamp, on):
    """Return the lamps that a look shows when one lamp was switched on or off."""
    others = [other for other in shown if other != lamp]
    return [*others, lamp] if on else others
