"""Plain and slow versions of what the document defines, and tables to try the program on."""

from itertools import permutations, product
from random import Random

from dimmerlog.notes import Notes
from dimmerlog.tables import Table

# Tables of which no order fits, for each kind of reason that there is.
WITHOUT_ORDER = [
    "lamps a b c\nlook x a b\nlook y b c\nlook z a c",
    "lamps a b c d\nlook w a b\nlook x b c\nlook y c d\nlook z d a",
    "lamps a b c d e\nlook v a b\nlook w b c\nlook x c d\nlook y d e\nlook z e a",
    "lamps a b c\nlook u a b c\nlook x a\nlook y b\nlook z c",
    "lamps a b c\nlook u a b c\nlook x a\nlook y b\nlook z c\nlook w",
    "lamps a b c d\nlook u a d\nlook v a\nlook w b d\nlook x b\nlook y c d\nlook z c",
    "lamps a b c d\nlook v a b d\nlook w a b\nlook x b c\nlook y b c d\nlook z d",
    "lamps c b a\nlook z c a\nlook q\nlook y b a\nlook x c b\nlook p a b c",
]

WITH_ORDER = [
    "lamps",
    "lamps a b",
    "lamps\nlook x",
    "lamps a\nlook x a",
    "lamps a\nlook y\nlook x",
    "lamps\nlook z\nlook x\nlook y",
    "lamps a b\nlook x a\nlook y a b\nlook z b",
    "lamps a b\nlook x\nlook y a b\nlook z b",
    "lamps a b\nlook w a\nlook x a b\nlook y b\nlook z",
    "lamps a b\nlook w a\nlook x a\nlook y b\nlook z b",
    "lamps a b c\nlook z a\nlook v a b\nlook y b\nlook w b c\nlook x c",
    "lamps a b c\nlook x a b c\nlook y a b c\nlook z a\nlook w b c",
    "lamps a b c\nlook u a\nlook v a b\nlook w b\nlook x c\nlook y c\nlook z",
]


def read_all(texts):
    return [Table.read(text) for text in texts]


def every_table(looks, lamps):
    """Return every table of these looks and lamps, each a string of names."""
    shown = [[lamp for lamp, on in zip(lamps, cells) if on] for cells in product([False, True], repeat=len(lamps))]
    return [Table(lamps, list(zip(looks, rows))) for rows in product(shown, repeat=len(looks))]


def random_tables(many, seed):
    """Return so many tables with at most six looks and six lamps; of most of them an order fits."""
    rest = Random(seed)
    found = []
    for _ in range(many):
        looks = rest.sample("rstuvwxyz", rest.randint(2, 6))
        line = rest.sample(looks, len(looks))
        shown = {look: [] for look in looks}
        lamps = "abcdef"[:rest.randint(2, 6)]
        for lamp in lamps:
            low, high = sorted([rest.randint(0, len(line)), rest.randint(0, len(line))])
            for look in line[low:high]:
                shown[look].append(lamp)
        for _ in range(rest.randint(0, 8)):
            look = rest.choice(looks)
            shown[look] = sorted(set(shown[look]) ^ {rest.choice(lamps)})
        found.append(Table(lamps, [(look, shown[look]) for look in looks]))
    return found


def small_tables():
    """Return tables of many kinds with at most six looks."""
    return read_all(WITH_ORDER) + read_all(WITHOUT_ORDER) + every_table("zxy", "ab") + random_tables(60, 1)


def some_notes(table, seed):
    """Return a few Notes objects for the table, from none to notes that contradict each other."""
    rest = Random(seed)
    found = [Notes()]
    for many in [1, 2, 2, 3, 4, 6]:
        pairs = pairs_of(table)
        found.append(Notes(*rest.sample(pairs, min(many, len(pairs)))))
    return found


def pairs_of(table):
    """Return all pairs of different looks."""
    return list(permutations(table.looks, 2))


def side_by_side(order, names):
    """Tell whether the names stand side by side in the order."""
    places = sorted({order.index(name) for name in names})
    return not places or places[-1] - places[0] == len(places) - 1


def orders_of(table, notes=()):
    """Return all orders that fit the table and keep the notes, ascending, by a listing of all orders."""
    return [
        order for order in permutations(sorted(table.looks))
        if all(side_by_side(order, table.seen(lamp)) for lamp in table.lamps)
        and all(order.index(before) < order.index(after) for before, after in notes)
    ]


def steps_from(table, pair):
    """Return the triples of all steps from a pair, as promise 16 says."""
    x, y = pair
    found = set()
    for lamp in table.lamps:
        for z in table.looks:
            if z != x and table[lamp, x] and table[lamp, z] and not table[lamp, y]:
                found.add((z, y, lamp))
            if z != y and table[lamp, y] and table[lamp, z] and not table[lamp, x]:
                found.add((x, z, lamp))
    return found


def lengths_from(table, start):
    """Return a dict: each pair that is tied to the start, and the fewest triples of a chain to it."""
    lengths = {start: 1}
    waiting = [start]
    for pair in waiting:
        for before, after, _ in sorted(steps_from(table, pair)):
            if (before, after) not in lengths:
                lengths[before, after] = lengths[pair] + 1
                waiting.append((before, after))
    return lengths


def fewest_of_a_bar(table):
    """Return the fewest triples of a bar, or None if there is none."""
    found = []
    for pair in pairs_of(table):
        lengths = lengths_from(table, pair)
        if pair[::-1] in lengths:
            found.append(lengths[pair[::-1]])
    return min(found, default=None)


def is_chain(table, steps):
    """Tell whether this is a chain of the table, as promise 17 says."""
    if steps.__class__ is not list or not steps:
        return False
    if not all(step.__class__ is tuple and len(step) == 3 for step in steps) or steps[0][2] is not None:
        return False
    if steps[0][:2] not in pairs_of(table):
        return False
    return all(new in steps_from(table, old[:2]) for old, new in zip(steps, steps[1:]))


def is_bar(table, steps):
    """Tell whether this is a bar of the table, as promise 18 says."""
    return is_chain(table, steps) and steps[-1][:2] == steps[0][1::-1]


def is_ring(table, notes, ring):
    """Tell whether this is a ring of the table and the notes, as promise 25 says."""
    if ring.__class__ is not list or not ring or not all(is_chain(table, steps) for steps in ring):
        return False
    if not all(steps[0][:2] in notes.pairs for steps in ring):
        return False
    return all(steps[-1][1] == other[-1][0] for steps, other in zip(ring, ring[1:] + ring[:1]))
