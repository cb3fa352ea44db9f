"""Houses and tables that several tests try, the lists they are made of, and plain reckonings over them."""

from itertools import product
from random import Random

LETTERS = "abcdefgh"

OUTCOMES = ["park", "road"]
HANDS = [("ana", ["hi", "lo"], [[5, 0], [-1, 2]]), ("bo", ["yes", "no", "so"], [[3, 3], [0, 1], [7, -7]])]
HOUSE = (
    ("park", "road"),
    (("ana", ("hi", "lo"), ((5, 0), (-1, 2))), ("bo", ("yes", "no", "so"), ((3, 3), (0, 1), (7, -7)))),
)
TABLE = {
    ("hi", "yes"): "park", ("hi", "no"): "road", ("hi", "so"): "park",
    ("lo", "yes"): "road", ("lo", "no"): "road", ("lo", "so"): "park",
}
SIZES = ([1], [2], [2, 2], [1, 3], [3, 2], [2, 1, 3], [2, 2, 2], [1, 1, 1, 1], [2, 2, 1, 2], [2, 2, 2, 2])


def lists_of(outcomes, sizes):
    """Lists for a house of so many outcomes, with a hand of so many words for each size."""
    names = [f"out{letter}" for letter in LETTERS[:outcomes]]
    hands = [(f"hand{LETTERS[k]}", [f"w{letter}" for letter in LETTERS[:size]],
              [[100 * k + 10 * t + place for place in range(outcomes)] for t in range(size)])
             for k, size in enumerate(sizes)]
    return names, hands


def tuples_of(outcomes, hands):
    """The house that is to be made of these lists."""
    return tuple(outcomes), tuple(
        (name, tuple(words), tuple(tuple(row) for row in worths)) for name, words, worths in hands)


def plain_rows(house):
    return list(product(*[words for name, words, worths in house[1]]))


def plain_others(house, k):
    return list(product(*[words for j, (name, words, worths) in enumerate(house[1]) if j != k]))


def columns_of(house):
    """Each hand's number with each row of the others' words, in order."""
    return [(k, others) for k in range(len(house[1])) for others in plain_others(house, k)]


def rows_beside(house, k, others):
    """The rows of the house for each word of the hand beside these others."""
    return [others[:k] + (word,) + others[k:] for word in house[1][k][1]]


def worth_of(house, k, word, outcome):
    name, words, worths = house[1][k]
    return worths[words.index(word)][house[0].index(outcome)]


def plain_grid(house, table, k, others):
    dealt = [table[row] for row in rows_beside(house, k, others)]
    return [[worth_of(house, k, word, outcome) for outcome in dealt] for word in house[1][k][1]]


def turning_table(house):
    """Deals the outcomes in turn, so that no two rows beside one another are dealt alike."""
    return {row: house[0][place % len(house[0])] for place, row in enumerate(plain_rows(house))}


def drawn_house(source, outcomes, sizes, least=-5, most=5):
    names, hands = lists_of(outcomes, sizes)
    return tuples_of(names, [
        (name, words, [[source.randint(least, most) for _ in names] for _ in words]) for name, words, _ in hands])


def drawn_table(source, house):
    return {row: source.choice(house[0]) for row in plain_rows(house)}


def drawn_houses(seed, count, least=-5, most=5):
    """Houses of one to four hands, from a seeded source, so that each run tries the same ones."""
    source = Random(seed)
    for _ in range(count):
        sizes = [source.randint(1, 3) for _ in range(source.randint(1, 4))]
        yield drawn_house(source, source.randint(1, 4), sizes, least, most)


def tables_tried():
    """Houses of one to four hands with drawn tables: with rings at many places, and without."""
    source = Random(2024)
    for sizes in SIZES:
        for outcomes in (1, 2, 3):
            for _ in range(6):
                house = drawn_house(source, outcomes, sizes)
                yield house, drawn_table(source, house)
    for house in drawn_houses(7, 40):
        yield house, turning_table(house)
        yield house, {row: house[0][-1] for row in plain_rows(house)}


def house_of_grid(grid, before=0, behind=0):
    """A house and a table that deal the t-th outcome to the t-th word of one hand, whose worths are the grid's.

    So many other hands of two words stand before and behind it, to whom all is worth nothing.
    """
    outcomes, hands = lists_of(len(grid), [2] * before + [len(grid)] + [2] * behind)
    hands = [(name, words, grid if k == before else [[0] * len(grid)] * 2)
             for k, (name, words, worths) in enumerate(hands)]
    house = tuples_of(outcomes, hands)
    words = house[1][before][1]
    return house, {row: house[0][words.index(row[before])] for row in plain_rows(house)}
