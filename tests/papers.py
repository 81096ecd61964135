"""Plain versions of what the document says of papers, and papers with one thing changed."""

from dimmerlog.steps import bar
from dimmerlog.tables import Table
from tests import plain

# A name that no table of the tests has.
UNKNOWN = "q0"


def is_conflict(table, notes, conflict):
    """Tell whether this is the conflict of a paper for failed lamps, as promise 40 says."""
    word, proof = conflict
    if word == "bar":
        return plain.is_bar(table, proof)
    return word == "ring" and plain.is_ring(table, notes, proof)


def lamps_used(conflict):
    """Return the lamps that the bar or the ring of a paper uses, ascending."""
    word, proof = conflict
    steps = proof if word == "bar" else [step for chain in proof for step in chain]
    return sorted({lamp for _, _, lamp in steps} - {None})


def is_failure_paper(table, notes, most, paper):
    """Tell whether this is a paper for failed lamps, as promise 40 says."""
    conflict, branches = paper
    if not is_conflict(table, notes, conflict):
        return False
    if most == 0:
        return branches == []
    if [lamp for lamp, _ in branches] != lamps_used(conflict):
        return False
    return all(is_failure_paper(table.without(lamp), notes, most - 1, inner) for lamp, inner in branches)


def is_split_paper(table, paper, first=(), second=()):
    """Tell whether this is a split paper with these lamps on the sliders, as promise 42 says."""
    if paper[0] == "bar":
        _, number, steps = paper
        lamps = {1: first, 2: second}.get(number, ())
        return plain.is_bar(table, steps) and all(lamp in lamps for _, _, lamp in steps[1:])
    _, lamp, one, two = paper
    if lamp not in table.lamps or lamp in first or lamp in second:
        return False
    return is_split_paper(table, one, (*first, lamp), second) and is_split_paper(table, two, first, (*second, lamp))


def split_paper(table, lamps, first=(), second=()):
    """Return a split paper where the lamps are taken in this order; None if the lamps can be divided."""
    for number, chosen in [(1, first), (2, second)]:
        steps = bar(table.without(*[lamp for lamp in table.lamps if lamp not in chosen]))
        if steps is not None:
            return ("bar", number, steps)
    if not lamps:
        return None
    one = split_paper(table, lamps[1:], (*first, lamps[0]), second)
    two = one and split_paper(table, lamps[1:], first, (*second, lamps[0]))
    return two and ("lamp", lamps[0], one, two)


def star(many):
    """Return a table with a look that shows so many lamps, each of which one other look shows."""
    lamps = "abcdefghijk"[:many]
    return Table([*lamps], [("u", [*lamps]), *[("u" + lamp, [lamp]) for lamp in lamps]])


def pairs_of_looks(many):
    """Return a table with a lamp for each pair of so many looks."""
    pairs = [(first, second) for second in range(many) for first in range(second)]
    shown = [[f"n{first}{second}" for first, second in pairs if look in (first, second)] for look in range(many)]
    lamps = [f"n{first}{second}" for first, second in pairs]
    return Table(lamps, [(f"x{look}", shown[look]) for look in range(many)])


def changed_chains(table, steps):
    """Return chains that differ from this one in one thing; a few of them may be chains, too."""
    found = [[], steps[::-1], steps + steps[-1:], steps[1:], steps[:-1]]
    for at, (before, after, lamp) in enumerate(steps):
        others = [(after, before, lamp), (before, before, lamp), (UNKNOWN, after, lamp), (before, UNKNOWN, lamp)]
        others += [(before, after, other) for other in [*table.lamps, UNKNOWN, None]]
        others += [(look, after, lamp) for look in table.looks] + [(before, look, lamp) for look in table.looks]
        found += [steps[:at] + [triple] + steps[at + 1:] for triple in others if triple != steps[at]]
        found.append(steps[:at] + steps[at + 1:])
    return found


def changed_rings(table, ring):
    """Return rings that differ from this one in one thing."""
    found = [[], ring[::-1], ring[1:], ring[:-1], ring + ring, ring + [[]], [[*ring[0], *ring[-1]]]]
    for at, steps in enumerate(ring):
        found += [ring[:at] + [other] + ring[at + 1:] for other in changed_chains(table, steps)]
    return found


def changed_failures(table, paper):
    """Return papers for failed lamps that differ from this one in one thing, at the top or one branch deep."""
    (word, proof), branches = paper
    proofs = changed_chains(table, proof) if word == "bar" else changed_rings(table, proof)
    found = [((word, other), branches) for other in proofs]
    found += [((other, proof), branches) for other in ["bar", "ring", "Bar", ""] if other != word]
    found += [((word, proof), branches[::-1]), ((word, proof), branches + [(UNKNOWN, paper)])]
    for at, (lamp, inner) in enumerate(branches):
        rest = [[], [(lamp, inner)] * 2, [(UNKNOWN, inner)], [(lamp, paper)], [branches[at - 1]],
                [(branches[at - 1][0], inner)], [(lamp, (inner[0], []))], [(lamp, (inner[0], [(lamp, inner)]))]]
        found += [((word, proof), branches[:at] + other + branches[at + 1:]) for other in rest]
        proofs = changed_chains(table, inner[0][1])[::5] if inner[0][0] == "bar" else [[]]
        others = [((inner[0][0], other), inner[1]) for other in proofs]
        found += [((word, proof), branches[:at] + [(lamp, other)] + branches[at + 1:]) for other in others]
    return found


def changed_splits(table, paper):
    """Return split papers that differ from this one in one thing, here or further down."""
    if paper[0] == "bar":
        _, number, steps = paper
        found = [("bar", other, steps) for other in [0, 1, 2, 3, -1, 12] if other != number]
        found += [("bar", number, other) for other in changed_chains(table, steps)[::9]]
        return found + [("lamp", table.lamps[0], paper, paper), ("lamp", UNKNOWN, paper, paper)]
    _, lamp, one, two = paper
    found = [("lamp", other, one, two) for other in [*table.lamps, *table.looks, UNKNOWN] if other != lamp]
    found += [("lamp", lamp, two, one), ("lamp", lamp, one, one), ("lamp", lamp, two, two), ("lamp", lamp, paper, two)]
    found += [("lamp", lamp, other, two) for other in changed_splits(table, one)[::3]]
    return found + [("lamp", lamp, one, other) for other in changed_splits(table, two)[1::3]] + [one, two]
