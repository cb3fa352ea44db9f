"""Menus: prices for outcomes, from which a hand picks by its word."""

from trueword.errors import NoMenu
from trueword.grids import is_whole
from trueword.houses import hands_of, others_of, outcomes_of, rows_of, without, worths_by
from trueword.pays import greatest
from trueword.tables import dealt_places, grid_of, is_outcome

# An offer is a tuple (left, outcome): what the outcome is worth to the hand, less its price.


def left_of(offer):
    return offer[0]


def outcome_of(offer):
    return offer[1]


def pick(house, k, menu, word):
    worths = worths_by(hands_of(house)[k], word)
    offers = [(worth - menu[one], one) for one, worth in zip(outcomes_of(house), worths) if one in menu]
    # Of several that leave as much, max tells the first: so the offers stand in the order of outcomes.
    return outcome_of(max(offers, key=left_of))


def menu_of(house, table, k, others):
    pays = greatest(grid_of(house, table, k, others))[0]
    places = dealt_places(house, table, k, others)
    # Words that are dealt one outcome are asked for one payment: the first of them tells the price.
    return dict([(one, pays[places.index(place)]) for place, one in enumerate(outcomes_of(house)) if place in places])


def is_menu(house, thing):
    if not isinstance(thing, dict) or len(thing) == 0:
        return False
    return all([is_outcome(house, outcome) and is_whole(price) for outcome, price in thing.items()])


def are_menus(house, k, thing):
    rows = others_of(house, k)
    if not isinstance(thing, dict) or len(thing) != len(rows):
        return False
    return all([is_menu(house, thing.get(others)) for others in rows])


def menus_table(house, k, menus):
    if not are_menus(house, k, menus):
        raise NoMenu("a menu for each row of the others, and nothing else, makes a table")
    return dict([(row, pick(house, k, menus[without(row, k)], row[k])) for row in rows_of(house)])
