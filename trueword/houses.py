"""Houses: the outcomes, and the hands with their words and what each outcome is worth to them by each."""

from trueword.errors import NoHouse
from trueword.grids import MOST_WORDS, is_grid_row

MOST_LETTERS = 8
MOST_OUTCOMES = 8
MOST_HANDS = 4
MOST_ROWS = 256


def is_name(thing):
    if not isinstance(thing, str) or not 1 <= len(thing) <= MOST_LETTERS:
        return False
    return all(["a" <= sign <= "z" for sign in thing])


def are_names(thing, most):
    if not isinstance(thing, list) or not 1 <= len(thing) <= most:
        return False
    return all([is_name(one) for one in thing]) and len(set(thing)) == len(thing)


def are_worths(thing, height, width):
    if not isinstance(thing, list) or len(thing) != height:
        return False
    return all([is_grid_row(row, width) for row in thing])


def is_hand(thing, width):
    if not isinstance(thing, tuple) or len(thing) != 3:
        return False
    return is_name(thing[0]) and are_names(thing[1], MOST_WORDS) and are_worths(thing[2], len(thing[1]), width)


def name_of(hand):
    return hand[0]


def names_of(hands):
    return [name_of(hand) for hand in hands]


def words_of_hand(hand):
    return hand[1]


def worths_of_hand(hand):
    return hand[2]


def worths_by(hand, word):
    return worths_of_hand(hand)[words_of_hand(hand).index(word)]


def count_of_rows(hands):
    count = 1
    for hand in hands:
        count = count * len(words_of_hand(hand))
    return count


def makes_house(outcomes, hands):
    if not are_names(outcomes, MOST_OUTCOMES) or not isinstance(hands, list):
        return False
    if not all([is_hand(hand, len(outcomes)) for hand in hands]):
        return False
    return are_names(names_of(hands), MOST_HANDS) and count_of_rows(hands) <= MOST_ROWS


def kept_hand(hand):
    worths = tuple([tuple(row) for row in worths_of_hand(hand)])
    return (name_of(hand), tuple(words_of_hand(hand)), worths)


def house_of(outcomes, hands):
    if not makes_house(outcomes, hands):
        raise NoHouse("no house is made of these outcomes and hands")
    return (tuple(outcomes), tuple([kept_hand(hand) for hand in hands]))


def outcomes_of(house):
    return house[0]


def hands_of(house):
    return house[1]


def with_each(rows, words):
    longer = []
    for row in rows:
        longer.extend([row + (word,) for word in words])
    return longer


def rows_over(hands):
    rows = [()]
    for hand in hands:
        rows = with_each(rows, words_of_hand(hand))
    return rows


def rows_of(house):
    return rows_over(hands_of(house))


def without(things, k):
    return things[:k] + things[k + 1:]


def others_of(house, k):
    return rows_over(without(hands_of(house), k))


def row_with(others, k, word):
    return others[:k] + (word,) + others[k:]
