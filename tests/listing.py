"""Plain listings of all settings that looks can have."""

from itertools import product

from tests import plain


def settings_of(table, notes):
    """Return all ways in which looks can share settings: lists of tuples of looks, by ascending settings."""
    found = []
    for order in plain.orders_of(table, notes.pairs):
        for cuts in product([False, True], repeat=max(0, len(order) - 1)):
            places = [order[:1]] if order else []
            for look, cut in zip(order[1:], cuts):
                if cut:
                    places.append((look,))
                else:
                    places[-1] = tuple(sorted([*places[-1], look]))
            if places not in found and all(_can_share(table, notes, looks) for looks in places):
                found.append(places)
    return found


def _can_share(table, notes, looks):
    """Tell whether these looks can have one setting, where they stand side by side."""
    return all(table.shown(look) == table.shown(looks[0]) for look in looks) and not any(
        (before, after) in notes for before in looks for after in looks)


def words_between(table, ways, first, second):
    """Return the words of promise 36 for each lamp, from all ways in which looks can share settings."""
    glows = {lamp: set() for lamp in table.lamps}
    for places in ways:
        # The looks have even settings, so that there is a setting between any two of them.
        setting = {look: 2 * at for at, looks in enumerate(places) for look in looks}
        low, high = sorted([setting[first], setting[second]])
        for lamp in table.lamps:
            at = sorted(setting[look] for look in table.seen(lamp))
            for further in range(low, high + 1):
                glows[lamp] |= _may_glow(at, further)
    words = {(True,): "on", (False,): "off", (False, True): "open"}
    return {lamp: words[tuple(sorted(found))] for lamp, found in glows.items()}


def _may_glow(at, further):
    """Tell which of True and False a lamp can be at a setting, where looks at these settings show it."""
    if further % 2 == 0 or not at:
        return {further in at} if further % 2 == 0 else {False, True}
    if at[0] < further < at[-1]:
        return {True}
    return {False, True} if further in (at[0] - 1, at[-1] + 1) else {False}
