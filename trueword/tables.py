"""Tables: which outcome is dealt for each row of a house, and the grids that a hand finds there."""

from trueword.houses import hands_of, outcomes_of, row_with, rows_of, words_of_hand, worths_of_hand


def is_outcome(house, thing):
    # Things of other kinds are not compared: they may answer anything.
    return isinstance(thing, str) and thing in outcomes_of(house)


def is_table(house, thing):
    rows = rows_of(house)
    if not isinstance(thing, dict) or len(thing) != len(rows):
        return False
    return all([is_outcome(house, thing.get(row)) for row in rows])


def dealt_places(house, table, k, others):
    rows = [row_with(others, k, word) for word in words_of_hand(hands_of(house)[k])]
    return [outcomes_of(house).index(table[row]) for row in rows]


def worths_at(worths, places):
    return [worths[place] for place in places]


def grid_of(house, table, k, others):
    places = dealt_places(house, table, k, others)
    return [worths_at(worths, places) for worths in worths_of_hand(hands_of(house)[k])]
