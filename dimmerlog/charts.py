"""Charts of tables."""

from dimmerlog.errors import InvalidOrder

NAME_WIDTH = 12
NUMBER_WIDTH = 3


def chart(table, order, *, on="#", off="."):
    """Return a chart with a line for each lamp and a character for each look in the order."""
    if sorted(order) != sorted(table.looks):
        raise InvalidOrder()
    return "\n".join([_line(lamp, table.seen(lamp), order, on, off) for lamp in table.lamps])


def _line(lamp, seen, order, on, off):
    """Return the line of a lamp, of which the looks that show it are given."""
    marks = "".join([on if look in seen else off for look in order])
    return f"{lamp.ljust(NAME_WIDTH)} {marks} {str(len(seen)).rjust(NUMBER_WIDTH)}"
