"""Rows that are told to a desk, and what it answers by what the modules tell."""

from random import Random

from houses_tried import columns_of, drawn_houses, house_of_grid, plain_rows, tables_tried
from rules_tried import FOUR, KEY_HOUSE, LONE, drawn_condition, written
from samples import grid_of_turns
from trueword.errors import TrueError
from trueword.menus import menu_of
from trueword.verdicts import verdict

HOUSE_ROW = "house park road / ana = hi 5 0 = lo -1 2 / bo = yes 3 3 = no 0 1 = so 7 -7"
RULE_ROW = "rule when says bo so deal park; when says bo no deal road; when says ana hi deal park; deal road"
RING_ROW = "rule when and says ana lo says bo no deal park; deal road"
BEST_ROW = "best 1 1 / 0 0"


def house_row(house):
    hands = [" = ".join([name] + [" ".join([word] + [str(worth) for worth in row])
                                  for word, row in zip(words, worths)]) for name, words, worths in house[1]]
    return "house " + " / ".join([" ".join(house[0])] + hands)


def table_row(house, table):
    """A rule that deals each outcome where one of its rows is said: only for tables of few rows."""
    clauses = []
    for row, outcome in list(table.items())[:-1]:
        said = [f"says {hand[0]} {word}" for hand, word in zip(house[1], row)]
        clauses.append("when " + "and " * (len(said) - 1) + " ".join(said) + f" deal {outcome}")
    return "rule " + "; ".join(clauses + [f"deal {list(table.values())[-1]}"])


def best_row(weights, handicaps):
    return "best " + " / ".join([" ".join(str(number) for number in numbers) for numbers in (weights, handicaps)])


def say(desk, row):
    """What is answered, or the name of the class it is refused with."""
    try:
        return ("told", desk.say(row))
    except TrueError as error:
        return ("refused", type(error).__name__)


def answers(house, table):
    """Every question about this house and table, with what is to be answered, as the modules tell it."""
    plain = {}
    told = verdict(house, table)
    for row in plain_rows(house):
        words = " ".join(row)
        plain[f"deal {words}"] = ("told", table[row])
        plain[f"pays {words}"] = pays_answer(house, told, row)
    for k, others in columns_of(house):
        plain[" ".join(["menu", house[1][k][0]] + list(others))] = menu_answer(house, table, k, others)
    plain["verdict"] = ("told", verdict_answer(house, told))
    return plain


def pays_answer(house, told, row):
    if told[0] == "ring":
        return ("refused", "NoPays")
    # By the papers of the verdict: much quicker than to ask for each row anew.
    asked = {k: pays[house[1][k][1].index(row[k])] for k, others, pays, ways in told[1]
             if others == row[:k] + row[k + 1:]}
    return ("told", " ".join(str(asked[k]) for k in range(len(row))))


def menu_answer(house, table, k, others):
    try:
        menu = menu_of(house, table, k, others)
    except TrueError:
        return ("refused", "NoPays")
    return ("told", " ".join(f"{outcome} {menu[outcome]}" for outcome in house[0] if outcome in menu))


def verdict_answer(house, told):
    if told[0] == "pays":
        return "payable"
    name, words, worths = house[1][told[1]]
    return " ".join(["ring", name] + list(told[2]) + [":"] + [words[word] for word in told[3]])


def few_rows():
    """Houses and tables that a rule of a clause for each row can write."""
    for house, table in tables_tried():
        if len(table) <= 20:
            yield house, table
    for size in (1, 2, 3, 4, 8):
        ring = {(s, s + 1): 0 for s in range(size - 1)}
        ring[(size - 1, 0)] = -1
        yield house_of_grid(grid_of_turns(size, ring))
        yield house_of_grid(grid_of_turns(size, {}), 0, 1)


def drawn_table_rows(source, house, count):
    """Rows that put up tables of this house: rules and weighted best rules."""
    for _ in range(count):
        if source.random() < 0.3:
            yield best_row([source.choice((1, 2, 9)) for _ in house[1]], [source.randint(-9, 9) for _ in house[0]])
        else:
            clauses = [(drawn_condition(source, house, source.randint(0, 2)), source.choice(house[0]))
                       for _ in range(source.randint(0, 3))]
            yield "rule " + written(clauses, source.choice(house[0]))


def houses_of_desks(seed):
    return [FOUR, LONE, KEY_HOUSE] + list(drawn_houses(seed, 12)), Random(seed)
