"""A desk, which runs lines of text on a hall."""

from dimmerlog.errors import DimmerError, InvalidLine, NoOrder
from dimmerlog.halls import CHANGES, Hall
from dimmerlog.solving import count_orders
from dimmerlog.trees import OrderTree

DONE = "ok"

# How many words stand behind the first word of a line. Behind "look" there may be more.
WORDS_BEHIND = {
    "lamp": 1, "look": 1, "unlamp": 1, "unlook": 1, "note": 2, "forget": 2, "on": 2, "off": 2, "undo": 0,
    "order": 0, "tree": 0, "count": 0, "relation": 2, "failed": 0, "table": 0,
}


def _on(hall, lamp, look):
    """Say that the look shows the lamp."""
    hall[lamp, look] = True
    return DONE


def _off(hall, lamp, look):
    """Say that the look does not show the lamp."""
    hall[lamp, look] = False
    return DONE


def _undo(hall):
    """Undo the last change."""
    return DONE if hall.undo() else "nothing to undo"


def _order(hall):
    """Return the line of the least order that fits."""
    try:
        return " ".join(["order", *hall.best_order()])
    except NoOrder:
        return "none"


def _tree(hall):
    """Return the text of the tree of all orders that fit the table."""
    try:
        return str(OrderTree.of(hall.table))
    except NoOrder:
        return "none"


def _count(hall):
    """Return the number of orders that fit."""
    return str(count_orders(hall.table, hall.known))


def _relation(hall, first, second):
    """Return the word for two looks."""
    try:
        return hall.relation(first, second)
    except NoOrder:
        return "none"


def _failed(hall):
    """Return the line of the failed lamps."""
    lamps = hall.failed().lamps
    return "unknown" if lamps is None else " ".join(["failed", *lamps])


def _table(hall):
    """Return the text of the table."""
    return str(hall.table)


ANSWERS = {
    "on": _on, "off": _off, "undo": _undo, "order": _order, "tree": _tree, "count": _count,
    "relation": _relation, "failed": _failed, "table": _table,
}


class Desk:
    """Runs lines of text on a hall."""

    def __init__(self, hall=None):
        self.hall = Hall() if hall is None else hall

    def __call__(self, line):
        return self._answer(line, 1)

    def run(self, text):
        """Run the lines of a text; return the list of their answers. A wrong line leaves the hall as it was."""
        state = self.hall.state()
        answers = []
        try:
            for number, line in enumerate(text.split("\n"), start=1):
                answers.append(self._answer(line, number))
        except InvalidLine:
            self.hall.restore(state)
            raise
        return answers

    def _answer(self, line, number):
        """Run one line, which has this number; return its answer."""
        word, *rest = line.split(" ")
        if not _has_form(word, rest):
            raise InvalidLine(number)
        try:
            return _run(self.hall, word, rest)
        except DimmerError:
            raise InvalidLine(number) from None


def _has_form(word, rest):
    """Tell whether a line can begin with the word and have the rest behind it."""
    if word not in WORDS_BEHIND:
        return False
    needed = WORDS_BEHIND[word]
    return len(rest) == needed or (word == "look" and len(rest) > needed)


def _run(hall, word, rest):
    """Run a line on the hall; return its answer."""
    if word in CHANGES:
        hall.change((word, *rest))
        return DONE
    answer = ANSWERS[word]
    return answer(hall, *rest)
