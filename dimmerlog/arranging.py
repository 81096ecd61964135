"""Arrangements: settings of looks and stretches of lamps that fit."""

from dimmerlog.notes import pairs_in
from dimmerlog.solving import order_of


class Arrangement:
    """A setting for each look, and a stretch of settings, or None, for each lamp."""

    def __init__(self, settings, stretches):
        self.settings = dict(settings)
        self.stretches = dict(stretches)

    def __call__(self, setting):
        glowing = [lamp for lamp in self.stretches if _contains(self.stretches[lamp], setting)]
        return tuple(sorted(glowing))

    def __add__(self, other):
        settings = {look: self.settings[look] + other for look in self.settings}
        stretches = {lamp: _moved(self.stretches[lamp], other) for lamp in self.stretches}
        return Arrangement(settings, stretches)

    def __radd__(self, other):
        return self + other

    def __neg__(self):
        settings = {look: -self.settings[look] for look in self.settings}
        stretches = {lamp: _turned(self.stretches[lamp]) for lamp in self.stretches}
        return Arrangement(settings, stretches)

    def __eq__(self, other):
        return (isinstance(other, Arrangement) and self.settings == other.settings
                and self.stretches == other.stretches)


def arrange(table, notes=None):
    """Return the Arrangement of the least order that fits; raise NoOrder if there is none."""
    settings = _settings_of(table, notes, order_of(table, notes))
    stretches = {}
    for lamp in table.lamps:
        at = [settings[look] for look in table.seen(lamp)]
        stretches[lamp] = (min(at), max(at)) if len(at) > 0 else None
    return Arrangement(settings, stretches)


def _settings_of(table, notes, order):
    """Return a dict of the settings, from 1 on, of the looks in this order."""
    pairs = pairs_in(notes)
    settings = {}
    setting = 1
    sharing = []
    for look in order:
        if not all([table.alike(other, look) and (other, look) not in pairs for other in sharing]):
            setting = setting + 1
            sharing = []
        sharing.append(look)
        settings[look] = setting
    return settings


def _contains(stretch, setting):
    """Tell whether the stretch, or None, contains the setting."""
    return stretch is not None and stretch[0] <= setting <= stretch[1]


def _moved(stretch, distance):
    """Return the stretch, or None, moved up."""
    return None if stretch is None else (stretch[0] + distance, stretch[1] + distance)


def _turned(stretch):
    """Return the stretch, or None, with the signs of its ends changed."""
    return None if stretch is None else (-stretch[1], -stretch[0])
