"""Rules that several tests try: conditions as words, as tuples, and as the rows of the house at which they hold."""

from itertools import product
from random import Random

from houses_tried import HOUSE, drawn_houses, plain_rows

KEYS = ("when", "deal", "says", "count", "not", "and", "or")
# Every word of the writing is an outcome's, a hand's and a word's name at once.
KEY_HOUSE = (
    KEYS,
    tuple((name, words, tuple(tuple(range(k, k + 7)) for k, word in enumerate(words)))
          for name, words in (("says", ("when", "deal", "says", "not")), ("not", ("count", "not", "and")),
                              ("deal", ("or", "when")), ("count", ("and", "or", "count", "says")))),
)
FOUR = (
    ("ash", "elm", "oak"),
    tuple((name, words, tuple((k, 2, 1) for k in range(len(words))))
          for name, words in (("ana", ("hi", "lo")), ("bo", ("lo", "hi", "so")), ("cy", ("hi",)),
                              ("di", ("lo", "hi")))),
)
LONE = (("ash", "elm"), (("ash", ("ash", "elm"), ((1, 0), (0, 1))),))
RULE_HOUSES = (HOUSE, KEY_HOUSE, FOUR, LONE)

# A tried condition is a tuple (words, condition, rows): as it is written, as it is told, and where it holds.


def says_tried(house, k, word):
    rows = {row for row in plain_rows(house) if row[k] == word}
    return ["says", house[1][k][0], word], ("says", k, word), rows


def count_tried(house, n, word):
    rows = {row for row in plain_rows(house) if len([place for place in range(len(row)) if row[place] == word]) >= n}
    return ["count", "01234"[n], word], ("count", n, word), rows


def not_tried(house, one):
    return ["not"] + one[0], ("not", one[1]), set(plain_rows(house)) - one[2]


def and_tried(one, other):
    return ["and"] + one[0] + other[0], ("and", one[1], other[1]), one[2] & other[2]


def or_tried(one, other):
    return ["or"] + one[0] + other[0], ("or", one[1], other[1]), one[2] | other[2]


def words_of_house(house):
    return sorted({word for name, words, worths in house[1] for word in words})


def plain_conditions(house):
    """Every says and every count of the house."""
    says = [says_tried(house, k, word) for k, (name, words, worths) in enumerate(house[1]) for word in words]
    return says + [count_tried(house, n, word) for n in (1, 2, 3, 4) for word in words_of_house(house)]


def nested_conditions(house):
    """Every condition of one not, and or or, with a plain one or two behind it; each of both with a not ahead."""
    plain = plain_conditions(house)
    negated = [not_tried(house, one) for one in plain]
    yield from negated
    for one, other in product(plain, plain + negated):
        yield and_tried(one, other)
        yield or_tried(one, other)
        yield not_tried(house, or_tried(other, one))


def drawn_condition(source, house, depth):
    kind = source.choice(("plain", "not", "and", "or")) if depth > 0 else "plain"
    if kind == "plain":
        return source.choice(plain_conditions(house))
    one = drawn_condition(source, house, depth - 1)
    if kind == "not":
        return not_tried(house, one)
    other = drawn_condition(source, house, depth - 1)
    return and_tried(one, other) if kind == "and" else or_tried(one, other)


def written(clauses, last):
    """The text of a rule of such clauses (tried condition, outcome) and the last outcome."""
    texts = [" ".join(["when"] + tried[0] + ["deal", outcome]) for tried, outcome in clauses]
    return "; ".join(texts + [f"deal {last}"])


def told(clauses, last):
    """The rule that is read from that text."""
    return [(tried[1], outcome) for tried, outcome in clauses] + [(None, last)]


def dealt_plainly(clauses, last, row):
    for tried, outcome in clauses:
        if row in tried[2]:
            return outcome
    return last


def drawn_rules(seed, count):
    """Houses with drawn rules of one to six clauses: tuples (house, clauses, last)."""
    source = Random(seed)
    houses = list(RULE_HOUSES) + list(drawn_houses(seed, 12))
    for place in range(count):
        house = houses[place % len(houses)]
        clauses = []
        for _ in range(source.randint(0, 5)):
            tried = drawn_condition(source, house, source.randint(0, 3))
            clauses.append((tried, source.choice(house[0])))
        yield house, clauses, source.choice(house[0])
