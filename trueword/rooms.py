"""Rooms: the honest payments that are neither beyond the worth nor below 0, and how far two of them can be apart."""

from trueword.grids import beyond, first_gain, turn
from trueword.pays import greatest, least
from trueword.rings import ring, total_of, words_of
from trueword.roads import least_roads, refuse_ring


def within(grid, pays):
    if first_gain(grid, pays) is not None or len(beyond(grid, pays)) > 0:
        return False
    return all([pay >= 0 for pay in pays])


def room(grid):
    found = ring(grid)
    if found is not None:
        return ("ring", found)
    told = greatest(grid)
    # No payments within are above the greatest ones: where one of these is below 0, its road shows that none lie there.
    for high, road in zip(told[0], told[1]):
        if high < 0:
            return ("short", road)
    return ("room", least(grid)[0], told[0])


def walk_between(grid, s, t):
    return (0, [s]) if s == t else (turn(grid, s, t), [s, t])


def apart(grid, s, t):
    refuse_ring(grid)
    walks = least_roads(grid, [walk_between(grid, s, word) for word in range(len(grid))])
    # What the least roads from s come to is honest: to no word does a further turn come to less.
    return (total_of(walks[t]), words_of(walks[t]), [total_of(walk) for walk in walks])
