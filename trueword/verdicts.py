"""Verdicts: whether a table is payable, by which payments or against which ring, and what is asked at a row."""

from trueword.houses import hands_of, others_of, without, words_of_hand
from trueword.pays import greatest
from trueword.rings import ring
from trueword.roads import refuse_ring
from trueword.tables import grid_of


def grids_of(house, table):
    grids = []
    for k in range(len(hands_of(house))):
        grids.extend([(k, others, grid_of(house, table, k, others)) for others in others_of(house, k)])
    return grids


def paper(k, others, grid):
    told = greatest(grid)
    return (k, others, told[0], told[1])


def verdict(house, table):
    papers = []
    for k, others, grid in grids_of(house, table):
        found = ring(grid)
        if found is not None:
            return ("ring", k, others, found)
        papers.append(paper(k, others, grid))
    return ("pays", papers)


def asked_of(house, table, k, row):
    pays = greatest(grid_of(house, table, k, without(row, k)))[0]
    return pays[words_of_hand(hands_of(house)[k]).index(row[k])]


def asked(house, table, row):
    # A ring anywhere leaves the table unpayable, so the grids of other rows are looked at, too.
    for k, others, grid in grids_of(house, table):
        refuse_ring(grid)
    return [asked_of(house, table, k, row) for k in range(len(hands_of(house)))]
