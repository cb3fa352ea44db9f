"""Rings: lists of words, none twice, round which the turns come to less than 0."""

from trueword.grids import first_gain, turn

# A walk is a tuple (total, words): a list of words, which may come again, and what the turns along it come to.
# Least walks are kept by their ends: those of row s begin with s, the one at place t ends with t.


def total_of(walk):
    return walk[0]


def words_of(walk):
    return walk[1]


def walks_of_one_turn(grid, s):
    return [(turn(grid, s, t), [s, t]) for t in range(len(grid))]


def least_to(grid, walks, t):
    longer = [(total + turn(grid, words[-1], t), words + [t]) for total, words in walks]
    return min(longer, key=total_of)


def lengthened(grid, walks):
    return [least_to(grid, walks, t) for t in range(len(grid))]


def after_a_turn(grid, totals, t):
    return min([total + turn(grid, s, t) for s, total in enumerate(totals)])


def has_honest(grid):
    # The least that walks of ever more turns come to (a turn from a word to itself comes to 0). Without a ring no walk
    # comes to less than the least road to its end: so with as many turns as roads can have, these totals are honest.
    totals = [0 for row in grid]
    for size in range(2, len(grid) + 1):
        totals = [after_a_turn(grid, totals, t) for t in range(len(grid))]
    return first_gain(grid, totals) is None


def closed_below_zero(rows):
    for s, walks in enumerate(rows):
        if total_of(walks[s]) < 0:
            return words_of(walks[s])[:-1]
    return None


def ring(grid):
    # Asked first, since it is much quicker than to look for a ring, and most grids that are asked about have none.
    if has_honest(grid):
        return None
    rows = [walks_of_one_turn(grid, s) for s in range(len(grid))]
    # The first length at which a walk comes back to its first word below 0 gives a ring: if a word came twice in it,
    # it would part into two shorter such walks, one of them below 0. And no ring has more words than the grid.
    for size in range(2, len(grid) + 1):
        rows = [lengthened(grid, walks) for walks in rows]
        found = closed_below_zero(rows)
        if found is not None:
            return found
    return None
