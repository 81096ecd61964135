"""Failed lamps: the fewest lamps to take out so that an order fits, and papers that fewer are not enough."""

from dimmerlog.errors import TooMany
from dimmerlog.solving import solve

HIGHEST = 3


class Failure:
    """The first smallest tuple of failed lamps, and a paper that shows that fewer lamps are not enough."""

    def __init__(self, lamps, paper):
        self.lamps = lamps
        self.paper = paper


class Search:
    """Solves a table without some of its lamps: the failed ones, an ascending tuple."""

    def __init__(self, table, notes):
        self._table = table
        self._notes = notes
        self._solutions = {}
        self._conflicts = []

    def smallest(self, most):
        """Return an ascending list of the smallest tuples of failed lamps, of at most this size, that are enough."""
        waiting = [()]
        for _ in range(most + 1):
            enough = [failed for failed in waiting if self._solved(failed)]
            if len(enough) > 0:
                return enough
            waiting = self._larger(waiting)
        return []

    def paper_for(self, failed, number):
        """Return a paper that so many more lamps than these are not enough."""
        solution = self._solved(failed)
        conflict = ("ring", solution.ring) if solution.bar is None else ("bar", solution.bar)
        if number == 0:
            return (conflict, [])
        return (conflict, [(lamp, self.paper_for(_extended(failed, lamp), number - 1)) for lamp in solution.used()])

    def _solved(self, failed):
        """Return a Solution of the table without the failed lamps; a conflict need not be the shortest one."""
        if failed not in self._solutions:
            self._solutions[failed] = self._found(failed)
        return self._solutions[failed]

    def _found(self, failed):
        """Return a Solution of the table without the failed lamps: an earlier conflict if one remains."""
        for conflict in self._conflicts:
            if not any([lamp in failed for lamp in conflict.used()]):
                return conflict
        solution = solve(self._table.without(*failed), self._notes)
        if not solution:
            self._conflicts.append(solution)
        return solution

    def _larger(self, waiting):
        """Return the tuples with one more lamp that can be enough where none of the given ones is."""
        # A conflict remains until one of the lamps that it uses is taken out.
        return sorted({_extended(failed, lamp) for failed in waiting for lamp in self._solved(failed).used()})


def all_failed(table, notes=None, *, most=2):
    """Return a list of all smallest tuples of failed lamps without which an order fits."""
    check_most(most)
    return Search(table, notes).smallest(most)


def fewest_failed(table, notes=None, *, most=2):
    """Return a Failure with the first smallest tuple of failed lamps."""
    check_most(most)
    search = Search(table, notes)
    enough = search.smallest(most)
    if len(enough) == 0:
        return Failure(None, search.paper_for((), most))
    lamps = enough[0]
    return Failure(lamps, search.paper_for((), len(lamps) - 1) if len(lamps) > 0 else None)


def check_most(most):
    """Raise TooMany if the number of failed lamps is too great."""
    if most > HIGHEST:
        raise TooMany(HIGHEST)


def _extended(failed, lamp):
    """Return the failed lamps and one more."""
    return tuple(sorted([*failed, lamp]))
