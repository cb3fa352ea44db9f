"""Payments: the greatest honest ones within the worth and the least that are never below 0, with roads that show it."""

from trueword.grids import turn
from trueword.rings import total_of, words_of
from trueword.roads import least_roads, refuse_ring


def greatest(grid):
    refuse_ring(grid)
    walks = least_roads(grid, [(grid[t][t], [t]) for t in range(len(grid))])
    return ([total_of(walk) for walk in walks], [words_of(walk) for walk in walks])


def mirrored_row(grid, t):
    return [-turn(grid, t, s) for s in range(len(grid))]


def mirrored(grid):
    # Its turn from s to t is the grid's from t to s: so its roads are those of the grid, walked backwards.
    return [mirrored_row(grid, t) for t in range(len(grid))]


def least(grid):
    refuse_ring(grid)
    walks = least_roads(mirrored(grid), [(0, [t]) for t in range(len(grid))])
    return ([-total_of(walk) for walk in walks], [list(reversed(words_of(walk))) for walk in walks])
