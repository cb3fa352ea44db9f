"""In the mean: grids, and lists of payments, summed with shares."""

from trueword.errors import NoShare
from trueword.grids import is_whole
from trueword.houses import others_of
from trueword.tables import grid_of


def is_share(thing):
    return is_whole(thing) and thing >= 0


def are_shares(thing, count):
    if not isinstance(thing, list) or len(thing) != count:
        return False
    return all([is_share(share) for share in thing]) and any([share > 0 for share in thing])


def refuse_shares(shares, count):
    if not are_shares(shares, count):
        raise NoShare("a whole number from 0 on for each, not all 0, makes shares")


def with_part(totals, numbers, share):
    return [total + share * number for total, number in zip(totals, numbers)]


def sum_of(lists, shares):
    totals = [0 for number in lists[0]]
    for numbers, share in zip(lists, shares):
        totals = with_part(totals, numbers, share)
    return totals


def rows_at(grids, t):
    return [grid[t] for grid in grids]


def summed_grids(grids, shares):
    refuse_shares(shares, len(grids))
    return [sum_of(rows_at(grids, t), shares) for t in range(len(grids[0]))]


def summed_pays(lists, shares):
    refuse_shares(shares, len(lists))
    return sum_of(lists, shares)


def shares_in_order(house, k, thing):
    rows = others_of(house, k)
    if not isinstance(thing, dict) or len(thing) != len(rows):
        raise NoShare("a share for each row of the others, and nothing else, makes a hand's shares")
    # A row without a share stands here with None, which is no share and refused with the others.
    return [thing.get(others) for others in rows]


def mean_grid(house, table, k, shares):
    grids = [grid_of(house, table, k, others) for others in others_of(house, k)]
    return summed_grids(grids, shares_in_order(house, k, shares))
