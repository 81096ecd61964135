"""A plain model of a hall that keeps every state, and lists all orders to answer."""

from dimmerlog.notes import Notes
from dimmerlog.tables import Table
from tests import plain


class Model:
    """Keeps lists of names, and never an object of the program."""

    def __init__(self):
        self.states = [([], [], {}, [])]

    def change(self, changes):
        """Make changes that are right; on and off are words of changes here, too."""
        lamps, looks, shown, notes = self.states[-1]
        state = list(lamps), list(looks), {look: set(shown[look]) for look in shown}, list(notes)
        for word, *rest in changes:
            self.make(state, word, rest)
        self.states.append(state)

    def make(self, state, word, rest):
        lamps, looks, shown, notes = state
        name = rest[0]
        if word == "lamp":
            lamps.append(name)
        elif word == "look":
            looks.append(name)
            shown[name] = set(rest[1:])
        elif word == "unlamp":
            lamps.remove(name)
            for look in looks:
                shown[look].discard(name)
        elif word == "unlook":
            looks.remove(name)
            del shown[name]
            notes[:] = [note for note in notes if name not in note]
        elif word in ["on", "off"]:
            (shown[rest[1]].add if word == "on" else shown[rest[1]].discard)(name)
        else:
            notes[:] = [note for note in notes if note != tuple(rest)] + [tuple(rest)] * (word == "note")

    def undo(self):
        if len(self.states) == 1:
            return False
        self.states.pop()
        return True

    @property
    def changes(self):
        return len(self.states) - 1

    @property
    def text(self):
        lamps, looks, shown, _ = self.states[-1]
        rows = [["look", look, *[lamp for lamp in lamps if lamp in shown[look]]] for look in looks]
        return "\n".join(" ".join(row) for row in [["lamps", *lamps], *rows])

    @property
    def notes(self):
        return tuple(sorted(self.states[-1][3]))

    def orders(self, notes=True):
        return plain.orders_of(Table.read(self.text), self.notes if notes else ())

    def relation(self, first, second):
        found = {order.index(first) < order.index(second) for order in self.orders()}
        return {(): "none", (True,): "before", (False,): "after"}.get(tuple(sorted(found)), "open")

    def is_right(self, hall):
        """Tell whether the hall has the lamps, looks, notes and number of changes of the model."""
        table, known = hall.table, hall.known
        return (str(table), known.pairs, known.__class__, hall.changes) == (self.text, self.notes, Notes, self.changes)


def random_changes(model, rest, many):
    """Return so many changes that are right one after the other; the last one may be "on" or "off"."""
    trial, found = Model(), []
    trial.states = [model.states[-1]]
    while len(found) < many:
        lamps, looks, _, notes = trial.states[-1]
        word = rest.choice(["lamp", "look", "look", "unlamp", "unlook", "note", "note", "forget"])
        new = [name for name in ["a", "b", "c", "x", "y", "z", "w"] if name not in (lamps if word == "lamp" else looks)]
        if word == "lamp" and len(lamps) < 4:
            found.append((word, rest.choice(new)))
        elif word == "look" and len(looks) < 5:
            found.append((word, rest.choice(new), *rest.sample(lamps, rest.randint(0, len(lamps)))))
        elif word == "unlamp" and lamps and rest.random() < 0.5:
            found.append((word, rest.choice(lamps)))
        elif word == "unlook" and looks and rest.random() < 0.5:
            found.append((word, rest.choice(looks)))
        elif word == "forget" and notes and rest.random() < 0.7:
            found.append((word, *rest.choice(notes)))
        elif word in ["note", "forget"] and len(looks) > 1:
            found.append((word, *rest.sample(looks, 2)))
        else:
            continue
        trial.change(found[-1:])
    return found
