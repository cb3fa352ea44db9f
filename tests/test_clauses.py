import unittest
from copy import deepcopy

from houses_tried import HOUSE, plain_rows
from rules_tried import (FOUR, KEY_HOUSE, LONE, RULE_HOUSES, count_tried, dealt_plainly, drawn_rules,
                         nested_conditions, plain_conditions, says_tried, told)
from trueword.clauses import dealt, holds, table_of
from trueword.tables import is_table

RULE = [
    (("and", ("says", 0, "hi"), ("says", 1, "yes")), "park"),
    (("says", 1, "so"), "road"),
    (("says", 0, "hi"), "road"),
    (None, "park"),
]


class TestHolds(unittest.TestCase):
    def check(self, house, tried):
        words, condition, rows = tried
        for row in plain_rows(house):
            self.assertIs(holds(condition, row), row in rows, (condition, row))

    def test_told_by_name(self):
        row = ("hi", "lo", "hi", "lo")
        for condition, plain in (
                (None, True),
                (("says", 0, "hi"), True), (("says", 1, "hi"), False), (("says", 3, "lo"), True),
                (("count", 1, "hi"), True), (("count", 2, "hi"), True), (("count", 3, "hi"), False),
                (("count", 2, "lo"), True), (("count", 4, "lo"), False), (("count", 1, "so"), False),
                (("not", ("says", 0, "hi")), False), (("not", ("count", 3, "hi")), True),
                (("and", ("says", 0, "hi"), ("says", 1, "lo")), True),
                (("and", ("says", 0, "hi"), ("says", 1, "hi")), False),
                (("and", ("says", 0, "lo"), ("says", 1, "lo")), False),
                (("and", ("says", 0, "lo"), ("says", 1, "hi")), False),
                (("or", ("says", 0, "hi"), ("says", 1, "lo")), True),
                (("or", ("says", 0, "hi"), ("says", 1, "hi")), True),
                (("or", ("says", 0, "lo"), ("says", 1, "lo")), True),
                (("or", ("says", 0, "lo"), ("says", 1, "hi")), False)):
            self.assertIs(holds(condition, row), plain, condition)

    def test_none_holds_always(self):
        for house in RULE_HOUSES:
            for row in plain_rows(house):
                self.assertIs(holds(None, row), True)

    def test_each_plain_condition(self):
        for house in RULE_HOUSES:
            for tried in plain_conditions(house):
                self.check(house, tried)

    def test_a_count_of_every_place(self):
        house = (("x",), tuple((name, ("u", "v"), ((0,), (0,))) for name in ("a", "b", "c", "d")))
        for n in (1, 2, 3, 4):
            tried = count_tried(house, n, "u")
            self.check(house, tried)
            self.assertEqual(len(tried[2]), (15, 11, 5, 1)[n - 1])

    def test_a_count_of_more_than_there_are_hands(self):
        for n in (2, 3, 4):
            for word in ("ash", "elm"):
                self.assertIs(holds(("count", n, word), ("ash",)), False)

    def test_nested_conditions(self):
        for house in (HOUSE, LONE):
            for tried in nested_conditions(house):
                self.check(house, tried)

    def test_drawn_conditions(self):
        for house, clauses, last in drawn_rules(91, 150):
            for tried, outcome in clauses:
                self.check(house, tried)

    def test_conditions_as_deep_as_a_clause_goes(self):
        # Behind when and ahead of deal and an outcome stand at most thirty-seven words.
        for depth in range(35):
            condition, plain = ("says", 0, "hi"), True
            for _ in range(depth):
                condition, plain = ("not", condition), not plain
            self.assertIs(holds(condition, ("hi",)), plain)
            self.assertIs(holds(condition, ("lo",)), not plain)

    def test_keys_as_words(self):
        self.assertIs(holds(("says", 0, "not"), ("not", "and", "or", "says")), True)
        self.assertIs(holds(("count", 1, "count"), ("not", "and", "or", "count")), True)
        self.assertIs(holds(("count", 2, "and"), ("not", "and", "or", "and")), True)
        self.assertIs(holds(("not", ("says", 1, "and")), ("not", "and", "or", "and")), False)


class TestDealt(unittest.TestCase):
    def test_told_by_name(self):
        for row, outcome in ((("hi", "yes"), "park"), (("hi", "no"), "road"), (("hi", "so"), "road"),
                             (("lo", "yes"), "park"), (("lo", "no"), "park"), (("lo", "so"), "road")):
            self.assertEqual(dealt(RULE, row), outcome)

    def test_one_clause_alone(self):
        for house in RULE_HOUSES:
            for outcome in house[0]:
                for row in plain_rows(house):
                    self.assertEqual(dealt([(None, outcome)], row), outcome)

    def test_the_first_clause_that_holds(self):
        one, other = ("says", 0, "hi"), ("says", 1, "lo")
        rule = [(one, "ash"), (other, "elm"), (None, "oak")]
        turned = [(other, "elm"), (one, "ash"), (None, "oak")]
        self.assertEqual([dealt(rule, row) for row in plain_rows(FOUR)[::2]],
                         ["ash", "ash", "ash", "elm", "oak", "oak"])
        self.assertEqual([dealt(turned, row) for row in plain_rows(FOUR)[::2]],
                         ["elm", "ash", "ash", "elm", "oak", "oak"])

    def test_a_clause_twice(self):
        rule = [(("says", 0, "ash"), "elm"), (("says", 0, "ash"), "ash"), (None, "ash")]
        self.assertEqual(dealt(rule, ("ash",)), "elm")
        self.assertEqual(dealt(rule, ("elm",)), "ash")

    def test_drawn_rules(self):
        for house, clauses, last in drawn_rules(92, 200):
            for row in plain_rows(house):
                self.assertEqual(dealt(told(clauses, last), row), dealt_plainly(clauses, last, row))

    def test_twenty_clauses(self):
        clauses = [(says_tried(KEY_HOUSE, place % 4, KEY_HOUSE[1][place % 4][1][place % 2]), KEY_HOUSE[0][place % 7])
                   for place in range(19)]
        for row in plain_rows(KEY_HOUSE):
            self.assertEqual(dealt(told(clauses, "or"), row), dealt_plainly(clauses, "or", row))


class TestTableOf(unittest.TestCase):
    def test_told_by_name(self):
        self.assertEqual(table_of(HOUSE, RULE), {
            ("hi", "yes"): "park", ("hi", "no"): "road", ("hi", "so"): "road",
            ("lo", "yes"): "park", ("lo", "no"): "park", ("lo", "so"): "road",
        })

    def test_drawn_rules(self):
        for house, clauses, last in drawn_rules(93, 200):
            table = table_of(house, told(clauses, last))
            self.assertIs(type(table), dict)
            self.assertIs(is_table(house, table), True)
            self.assertEqual(table, {row: dealt_plainly(clauses, last, row) for row in plain_rows(house)})

    def test_two_hundred_and_fifty_six_rows(self):
        words = ("a", "b", "c", "d")
        house = (("x", "y"), tuple((name, words, ((0, 0),) * 4) for name in words))
        table = table_of(house, [(("count", 2, "a"), "y"), (None, "x")])
        self.assertEqual(table, {row: "y" if row.count("a") > 1 else "x" for row in plain_rows(house)})
        self.assertEqual(len(table), 256)


class TestAskersOwn(unittest.TestCase):
    def test_nothing_handed_in_is_changed(self):
        rule = list(RULE)
        before = deepcopy(rule)
        for row in plain_rows(HOUSE):
            dealt(rule, row)
            for condition, outcome in rule:
                holds(condition, row)
        table_of(HOUSE, rule)
        self.assertEqual(rule, before)

    def test_told_tables_may_be_changed(self):
        one, other = table_of(HOUSE, RULE), table_of(HOUSE, RULE)
        before = dict(other)
        one[("hi", "yes")] = "road"
        one.clear()
        self.assertEqual(other, before)
        self.assertEqual(table_of(HOUSE, RULE), before)

    def test_what_is_changed_behind_the_call_changes_nothing_told(self):
        rule = list(RULE)
        table = table_of(HOUSE, rule)
        before = dict(table)
        rule[0] = (None, "road")
        rule.clear()
        self.assertEqual(table, before)


if __name__ == "__main__":
    unittest.main()
