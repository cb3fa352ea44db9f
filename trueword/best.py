"""Weighted best rules: the outcome with the greatest score is dealt, and what each hand's being there takes."""

from trueword.errors import NoWeight
from trueword.grids import is_grid_row
from trueword.houses import hands_of, outcomes_of, rows_of, worths_by


def are_weights(house, thing):
    return is_grid_row(thing, len(hands_of(house))) and all([weight >= 1 for weight in thing])


def are_handicaps(house, thing):
    return is_grid_row(thing, len(outcomes_of(house)))


def refuse_weights(house, weights, handicaps):
    if not are_weights(house, weights):
        raise NoWeight("a whole number from 1 on for each hand makes weights")
    if not are_handicaps(house, handicaps):
        raise NoWeight("a whole number for each outcome makes handicaps")


def part_of(hand, weight, word):
    return [weight * worth for worth in worths_by(hand, word)]


def parts_of(house, weights, row):
    return [part_of(hand, weight, word) for hand, weight, word in zip(hands_of(house), weights, row)]


def scores(house, weights, handicaps, row):
    refuse_weights(house, weights, handicaps)
    totals = list(handicaps)
    for part in parts_of(house, weights, row):
        totals = [total + number for total, number in zip(totals, part)]
    return totals


def best_place(totals):
    return totals.index(max(totals))


def best_outcome(house, weights, handicaps, row):
    return outcomes_of(house)[best_place(scores(house, weights, handicaps, row))]


def best_table(house, weights, handicaps):
    return dict([(row, best_outcome(house, weights, handicaps, row)) for row in rows_of(house)])


def pivot(totals, part):
    rest = [total - number for total, number in zip(totals, part)]
    return max(rest) - rest[best_place(totals)]


def pivots(house, weights, handicaps, row):
    totals = scores(house, weights, handicaps, row)
    return [pivot(totals, part) for part in parts_of(house, weights, row)]
