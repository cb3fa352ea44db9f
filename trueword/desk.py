"""The desk: it keeps a house and a table, is told rows of text and answers each with a text."""

from trueword.best import best_table
from trueword.clauses import table_of
from trueword.errors import NoRow, NoStand, NoWord
from trueword.houses import hands_of, name_of, names_of, others_of, words_of_hand
from trueword.menus import menu_of
from trueword.rules import read_rule
from trueword.texts import read_house, read_weights
from trueword.verdicts import asked, verdict


def rule_table(house, rest):
    return table_of(house, read_rule(house, rest))


def weighted_table(house, rest):
    told = read_weights(rest)
    return best_table(house, told[0], told[1])


def row_from(table, rest):
    # The keys of a table are just the rows of its house.
    row = tuple(rest.split(" "))
    if row not in table:
        raise NoWord("one word of each hand, in order, is told")
    return row


def deal_told(house, table, rest):
    return table[row_from(table, rest)]


def pays_told(house, table, rest):
    return " ".join([str(pay) for pay in asked(house, table, row_from(table, rest))])


def ring_told(hand, others, ring):
    words = [words_of_hand(hand)[word] for word in ring]
    return " ".join(["ring", name_of(hand)] + list(others) + [":"] + words)


def verdict_told(house, table, rest):
    told = verdict(house, table)
    if told[0] == "pays":
        return "payable"
    return ring_told(hands_of(house)[told[1]], told[2], told[3])


def place_of_hand(house, name):
    names = names_of(hands_of(house))
    if name not in names:
        raise NoWord("a hand of the house is told")
    return names.index(name)


def menu_told(house, table, rest):
    words = rest.split(" ")
    k = place_of_hand(house, words[0])
    others = tuple(words[1:])
    if others not in others_of(house, k):
        raise NoWord("one word of each other hand, in order, is told")
    return " ".join([f"{outcome} {price}" for outcome, price in menu_of(house, table, k, others).items()])


MAKERS = {"rule": rule_table, "best": weighted_table}
ANSWERS = {"deal": deal_told, "pays": pays_told, "verdict": verdict_told, "menu": menu_told}


def refuse_row(row):
    if not isinstance(row, str):
        raise NoRow("a row is a text")
    first = row.partition(" ")[0]
    if first != "house" and first not in MAKERS and first not in ANSWERS:
        raise NoRow("a row begins with house, rule, best, deal, pays, verdict, menu")
    if first == "verdict" and row != first:
        raise NoRow("nothing stands behind verdict")


class Desk:
    def __init__(self):
        self.house = None
        self.table = None

    def say(self, row):
        refuse_row(row)
        parts = row.partition(" ")
        first = parts[0]
        rest = parts[2]
        if first == "house":
            self.house = read_house(rest)
            self.table = None
            return "ok"
        if self.house is None:
            raise NoStand("no house stands")
        if first in MAKERS:
            self.table = MAKERS[first](self.house, rest)
            return "ok"
        if self.table is None:
            raise NoStand("no table stands")
        return ANSWERS[first](self.house, self.table, rest)
