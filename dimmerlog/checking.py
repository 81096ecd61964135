"""Checks of orders, arrangements and papers, whoever made them."""

from dimmerlog.notes import pairs_in
from dimmerlog.steps import lamps_of

SLIDERS = (1, 2)


def order_holds(table, notes, order):
    """Tell whether the order has each look of the table once, fits the table and keeps the notes."""
    if sorted(order) != sorted(table.looks):
        return False
    place = {look: at for at, look in enumerate(order)}
    if not all([_stand_together([place[look] for look in table.seen(lamp)]) for lamp in table.lamps]):
        return False
    return _ascend(place, notes)


def steps_hold(table, steps):
    """Tell whether the list of triples is a chain of the table."""
    # A ring that is called a bar, or a bar that is called a ring, comes here without triples.
    if len(steps) == 0 or not all([isinstance(triple, tuple) for triple in steps]):
        return False
    if steps[0][2] is not None or not all([_is_pair(table, before, after) for before, after, _ in steps]):
        return False
    return all([_is_step(table, old, new) for old, new in zip(steps, steps[1:])])


def bar_holds(table, steps):
    """Tell whether the list of triples is a bar of the table."""
    if not steps_hold(table, steps):
        return False
    first, second, _ = steps[0]
    return steps[-1][:2] == (second, first)


def ring_holds(table, notes, ring):
    """Tell whether the list of chains is a ring of the table and the notes."""
    if len(ring) == 0 or not all([steps_hold(table, steps) for steps in ring]):
        return False
    pairs = pairs_in(notes)
    if not all([steps[0][:2] in pairs for steps in ring]):
        return False
    ends = [steps[-1] for steps in ring]
    return all([end[1] == further[0] for end, further in zip(ends, ends[1:] + ends[:1])])


def failure_holds(table, notes, most, paper):
    """Tell whether the paper shows that no order fits when so many lamps are taken out."""
    (word, proof), branches = paper
    if not _conflict_holds(table, notes, word, proof):
        return False
    if most == 0:
        return len(branches) == 0
    chains = [proof] if word == "bar" else proof
    used = lamps_of([step for steps in chains for step in steps])
    if [lamp for lamp, _ in branches] != used:
        return False
    return all([failure_holds(table.without(lamp), notes, most - 1, inner) for lamp, inner in branches])


def split_holds(table, paper):
    """Tell whether the paper shows that the lamps cannot be divided among two sliders."""
    return _split_holds(table, {}, paper)


def arrangement_holds(table, notes, arrangement):
    """Tell whether the arrangement has settings and stretches that fit the table and the notes."""
    settings = arrangement.settings
    if sorted(settings) != sorted(table.looks) or sorted(arrangement.stretches) != sorted(table.lamps):
        return False
    if not all([arrangement(settings[look]) == tuple(sorted(shown)) for look, shown in table.rows()]):
        return False
    return _ascend(settings, notes)


def _stand_together(places):
    """Tell whether different places stand side by side."""
    return len(places) == 0 or max(places) - min(places) == len(places) - 1


def _ascend(place, notes):
    """Tell whether each note has two looks with a place, and the first one's place is less."""
    pairs = pairs_in(notes)
    return all([before in place and after in place and place[before] < place[after] for before, after in pairs])


def _is_pair(table, before, after):
    """Tell whether these are two different looks of the table."""
    return before != after and before in table.looks and after in table.looks


def _is_step(table, old, new):
    """Tell whether a step leads from the pair of one triple to that of the next, by the lamp of the next."""
    before, after, lamp = new
    if old[1] == after:
        return _moves(table, lamp, old[0], before, after)
    return old[0] == before and _moves(table, lamp, old[1], after, before)


def _moves(table, lamp, old, new, other):
    """Tell whether the lamp glows at two different looks and not at the other one."""
    lit = lamp in table.shown(old) and lamp in table.shown(new)
    return lit and old != new and lamp not in table.shown(other)


def _conflict_holds(table, notes, word, proof):
    """Tell whether the proof is what the word says: a bar or a ring."""
    if word == "bar":
        return bar_holds(table, proof)
    return word == "ring" and ring_holds(table, notes, proof)


def _split_holds(table, placed, paper):
    """Tell whether the split paper holds where `placed` has the numbers of some lamps' sliders."""
    if len(paper) == 3 and paper[0] == "bar":
        _, number, steps = paper
        return number in SLIDERS and bar_holds(table, steps) and _all_on(placed, number, lamps_of(steps))
    if len(paper) == 4 and paper[0] == "lamp":
        _, lamp, *papers = paper
        if lamp not in table.lamps or lamp in placed:
            return False
        return all([_split_holds(table, {**placed, lamp: number}, one) for number, one in zip(SLIDERS, papers)])
    return False


def _all_on(placed, number, lamps):
    """Tell whether all these lamps are on the slider with this number."""
    return all([placed.get(lamp) == number for lamp in lamps])
