"""Clauses: when a condition holds at a row, and what a rule deals there by its first clause that holds."""

from trueword.houses import rows_of


def holds(condition, row):
    # The last clause of a rule has None as its condition: it deals wherever no other clause does.
    if condition is None:
        return True
    kind = condition[0]
    if kind == "says":
        return row[condition[1]] == condition[2]
    if kind == "count":
        return row.count(condition[2]) >= condition[1]
    if kind == "not":
        return not holds(condition[1], row)
    if kind == "and":
        return holds(condition[1], row) and holds(condition[2], row)
    return holds(condition[1], row) or holds(condition[2], row)


def dealt(rule, row):
    return [outcome for condition, outcome in rule if holds(condition, row)][0]


def table_of(house, rule):
    return dict([(row, dealt(rule, row)) for row in rows_of(house)])
