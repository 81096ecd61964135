"""What one more look can show, and what can be said between two looks."""

from dimmerlog.errors import TooMany
from dimmerlog.notes import pairs_in, pairs_of
from dimmerlog.solving import check_fitting_pair, fits, fits_in_turn
from dimmerlog.tables import LIMIT
from dimmerlog.trees import OrderTree, least_order

MOST_LAMPS = 6


def may_show(table, notes, lamps):
    """Tell whether an order fits the table with one more look, which shows exactly these lamps."""
    larger = table.with_look(_new_name(table), *lamps)
    # The new look is no look that a note may name. So the notes are checked here.
    pairs_of(table, notes)
    return fits(larger, notes)


def next_shows(table, notes=None):
    """Yield each tuple of lamps that one more look can show, in ascending order."""
    if len(table.lamps) > MOST_LAMPS:
        raise TooMany(MOST_LAMPS)
    for lamps in _choices(table.lamps):
        if may_show(table, notes, lamps):
            yield lamps


def prospects(table, notes, first, second):
    """Return a dict from each lamp to "on", "off" or "open" for a further look between two looks."""
    check_fitting_pair(table, notes, first, second)
    between = [look for look in table.looks if _may_lie_between(table, notes, look, first, second)]
    return {lamp: _prospect(table.seen(lamp), between, first, second) for lamp in table.lamps}


def may_share(table, notes, first, second):
    """Tell whether two looks can have been at the same setting."""
    check_fitting_pair(table, notes, first, second)
    pairs = pairs_in(notes)
    if not table.alike(first, second) or (first, second) in pairs or (second, first) in pairs:
        return False
    # Looks that show the same lamps and have no notes among them can change
    # places. So the two looks can stand side by side if they can share at all.
    tree = OrderTree.of(table) & (first, second)
    return least_order(tree, pairs) is not None


def _new_name(table):
    """Return a name that no look of the table has."""
    names = [f"new{number}" for number in range(LIMIT + 1)]
    return [name for name in names if name not in table.looks][0]


def _choices(lamps):
    """Return an ascending list of all ascending tuples of the lamps."""
    choices = [()]
    for lamp in sorted(lamps):
        choices = choices + [(*chosen, lamp) for chosen in choices]
    return sorted(choices)


def _may_lie_between(table, notes, look, first, second):
    """Tell whether some order that fits has the look between the two looks."""
    if look in (first, second):
        return False
    return fits_in_turn(table, notes, first, look, second) or fits_in_turn(table, notes, second, look, first)


def _prospect(seen, between, first, second):
    """Return the word for a lamp, of which the looks that show it are given."""
    if first in seen and second in seen:
        return "on"
    if first in seen or second in seen or len(seen) == 0:
        return "open"
    return "open" if any([look in between for look in seen]) else "off"
