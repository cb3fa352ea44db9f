"""What is promised over the whole program: of every function that it tells, and of all its parts together."""

import ast
import unittest
from copy import deepcopy
from importlib import import_module
from inspect import signature
from itertools import product
from pathlib import Path
from random import Random

from desks_tried import BEST_ROW, HOUSE_ROW, RING_ROW, RULE_ROW, house_row, say
from houses_tried import (HANDS, HOUSE, OUTCOMES, TABLE, columns_of, plain_grid, plain_others, plain_rows, rows_beside,
                          worth_of)
from rules_tried import dealt_plainly, drawn_rules, written
from samples import (check_refused, fewest_round_below_zero, mixed_grids, payments_within_by_roads, ringless_grids,
                     small_grids)
from trueword.best import best_table, pivots, scores
from trueword.clauses import dealt, holds, table_of
from trueword.desk import Desk
from trueword.errors import TrueError
from trueword.grids import along, beyond, first_gain, is_grid, round_sum, turn
from trueword.houses import house_of, is_name, others_of, row_with, rows_of
from trueword.means import mean_grid, summed_grids, summed_pays
from trueword.menus import menu_of, menus_table, pick
from trueword.pays import greatest, least
from trueword.rings import ring
from trueword.rooms import apart, room, within
from trueword.rules import read_rule, shown
from trueword.tables import grid_of, is_table
from trueword.verdicts import asked, verdict

PACKAGE = Path(__file__).resolve().parent.parent / "trueword"

GRID = [[5, 1, 0], [2, 4, 3], [-1, 6, 7]]
CROSSED = [[0, 1], [1, 0]]
SHORT = [[-1, -2], [-3, -1]]
RING_TABLE = {row: "park" if row == ("lo", "no") else "road" for row in plain_rows(HOUSE)}
MENUS = {("yes",): {"park": 3, "road": 0}, ("no",): {"road": -1}, ("so",): {"park": 7}}
TEXT = "when and says ana hi not count 2 lo deal park; when or says bo so says ana lo deal road; deal park"
RULE = read_rule(HOUSE, TEXT)
SHARES = {("yes",): 2, ("no",): 0, ("so",): 1}

INTERFACE = (
    "grids.is_grid(thing)", "grids.turn(grid, s, t)", "grids.along(grid, words)", "grids.round_sum(grid, words)",
    "grids.first_gain(grid, pays)", "grids.beyond(grid, pays)", "rings.ring(grid)", "pays.greatest(grid)",
    "pays.least(grid)", "rooms.within(grid, pays)", "rooms.room(grid)", "rooms.apart(grid, s, t)",
    "houses.is_name(thing)", "houses.house_of(outcomes, hands)", "houses.rows_of(house)", "houses.others_of(house, k)",
    "houses.row_with(others, k, word)", "tables.is_table(house, thing)", "tables.grid_of(house, table, k, others)",
    "verdicts.verdict(house, table)", "verdicts.asked(house, table, row)", "menus.pick(house, k, menu, word)",
    "menus.menu_of(house, table, k, others)", "menus.menus_table(house, k, menus)",
    "best.scores(house, weights, handicaps, row)", "best.best_table(house, weights, handicaps)",
    "best.pivots(house, weights, handicaps, row)", "means.summed_grids(grids, shares)",
    "means.summed_pays(lists, shares)", "means.mean_grid(house, table, k, shares)", "clauses.holds(condition, row)",
    "clauses.dealt(rule, row)", "clauses.table_of(house, rule)", "rules.read_rule(house, text)",
    "rules.shown(house, rule)",
)
# Each function of the interface with what is handed in, told and refused.
CALLS = (
    (is_grid, GRID), (is_grid, [[1], [2]]), (turn, GRID, 0, 2), (along, GRID, [0, 1, 0]), (round_sum, GRID, [2, 1]),
    (first_gain, GRID, [0, 2, 4]), (first_gain, GRID, [0, 2, 3]), (beyond, GRID, [6, 4, 8]),
    (ring, GRID), (ring, CROSSED), (greatest, GRID), (greatest, CROSSED), (least, GRID), (least, CROSSED),
    (within, GRID, [5, 4, 5]), (room, GRID), (room, CROSSED), (room, SHORT), (apart, GRID, 0, 2), (apart, GRID, 1, 1),
    (apart, CROSSED, 0, 1),
    (is_name, "ana"), (house_of, OUTCOMES, HANDS), (house_of, OUTCOMES, HANDS[:1] * 2), (rows_of, HOUSE),
    (others_of, HOUSE, 0), (others_of, HOUSE, 1), (row_with, ("yes",), 0, "hi"), (is_table, HOUSE, TABLE),
    (is_table, HOUSE, {}), (grid_of, HOUSE, TABLE, 0, ("yes",)), (grid_of, HOUSE, TABLE, 1, ("lo",)),
    (verdict, HOUSE, TABLE), (verdict, HOUSE, RING_TABLE), (asked, HOUSE, TABLE, ("hi", "so")),
    (asked, HOUSE, RING_TABLE, ("hi", "so")),
    (pick, HOUSE, 0, {"park": 3, "road": 0}, "hi"), (menu_of, HOUSE, TABLE, 1, ("lo",)),
    (menu_of, HOUSE, RING_TABLE, 0, ("no",)), (menus_table, HOUSE, 0, MENUS), (menus_table, HOUSE, 1, MENUS),
    (scores, HOUSE, [1, 2], [0, 4], ("hi", "no")), (scores, HOUSE, [0, 2], [0, 4], ("hi", "no")),
    (best_table, HOUSE, [1, 2], [0, 4]), (best_table, HOUSE, [1, 2], [0]),
    (pivots, HOUSE, [1, 2], [0, 4], ("hi", "no")),
    (pivots, HOUSE, [1], [0, 4], ("hi", "no")),
    (summed_grids, [GRID, GRID], [1, 0]), (summed_grids, [GRID, GRID], [0, 0]), (summed_grids, [GRID], [1]),
    (summed_pays, [[1, 2], [3, 4]], [1, 2]), (summed_pays, [[1, 2]], [1]), (summed_pays, [[1, 2]], [True]),
    (mean_grid, HOUSE, TABLE, 0, SHARES), (mean_grid, HOUSE, TABLE, 1, SHARES),
    (holds, RULE[0][0], ("hi", "yes")), (holds, None, ("hi", "yes")), (dealt, RULE, ("lo", "so")),
    (table_of, HOUSE, RULE),
    (read_rule, HOUSE, TEXT), (read_rule, HOUSE, "deal lake"), (shown, HOUSE, RULE),
)


def answer(function, handed):
    """What is told, or the class it is refused with."""
    try:
        return function(*handed)
    except TrueError as error:
        return type(error)


def parts_that_change(thing):
    """Every list and dict within, itself too."""
    if isinstance(thing, dict):
        return [thing] + [part for value in thing.values() for part in parts_that_change(value)]
    if isinstance(thing, (list, tuple)):
        inner = [part for value in thing for part in parts_that_change(value)]
        return [thing] + inner if isinstance(thing, list) else inner
    return []


def in_order(thing):
    """A copy in which the order of a dict's keys counts, too."""
    if isinstance(thing, dict):
        return ("dict", [(key, in_order(value)) for key, value in thing.items()])
    if isinstance(thing, (list, tuple)):
        return (type(thing), [in_order(value) for value in thing])
    return (type(thing), thing)


def spoil(thing):
    for part in parts_that_change(thing):
        part.clear()


class TestInterface(unittest.TestCase):
    def test_names_and_arguments(self):
        for call in INTERFACE:
            module, rest = call.split(".")
            name, arguments = rest.split("(", 1)
            function = getattr(import_module(f"trueword.{module}"), name)
            self.assertEqual(str(signature(function)), f"({arguments}")

    def test_the_desk(self):
        self.assertEqual(str(signature(Desk)), "()")
        self.assertEqual(str(signature(Desk.say)), "(self, row)")
        self.assertEqual(Desk().say(row=HOUSE_ROW), "ok")


class TestNothingIsChangedOrKept(unittest.TestCase):
    def test_every_function_of_the_interface_is_tried(self):
        named = {f"{function.__module__}.{function.__name__}" for function, *handed in CALLS}
        self.assertEqual(named, {f"trueword.{call.split('(')[0]}" for call in INTERFACE})

    def test_what_was_handed_in_is_as_it_was(self):
        for function, *handed in CALLS:
            with self.subTest(call=(function.__name__, handed)):
                before = in_order(handed)
                answer(function, handed)
                self.assertEqual(in_order(handed), before)

    def test_what_is_told_is_the_askers_own(self):
        for function, *handed in CALLS:
            with self.subTest(call=(function.__name__, handed)):
                one, other = answer(function, handed), answer(function, handed)
                self.assertEqual(in_order(one), in_order(other))
                told = parts_that_change(one) + parts_that_change(other)
                self.assertEqual(len({id(part) for part in told}), len(told))
                handed_in = {id(part) for part in parts_that_change(handed)}
                self.assertEqual([part for part in told if id(part) in handed_in], [])

    def test_told_things_may_be_changed(self):
        before = [in_order(answer(function, handed)) for function, *handed in CALLS]
        for function, *handed in CALLS:
            spoil(answer(function, handed))
        self.assertEqual([in_order(answer(function, handed)) for function, *handed in CALLS], before)

    def test_what_was_handed_in_may_be_changed_behind_the_call(self):
        for function, *handed in CALLS:
            with self.subTest(call=(function.__name__, handed)):
                own = deepcopy(handed)
                told = answer(function, own)
                before = in_order(told)
                spoil(own)
                self.assertEqual(in_order(told), before)
                self.assertEqual(in_order(answer(function, handed)), before)

    def test_a_house_is_made_anew(self):
        outcomes, hands = deepcopy(OUTCOMES), deepcopy(HANDS)
        house = house_of(outcomes, hands)
        spoil([outcomes, hands])
        self.assertEqual(house, HOUSE)
        self.assertEqual(verdict(house, TABLE)[0], "pays")

    def test_calls_in_another_order_tell_the_same(self):
        before = [in_order(answer(function, handed)) for function, *handed in CALLS]
        order = list(range(len(CALLS)))
        Random(11).shuffle(order)
        told = {place: in_order(answer(CALLS[place][0], CALLS[place][1:])) for place in order}
        self.assertEqual([told[place] for place in range(len(CALLS))], before)

    def test_a_desk_tells_the_same_again(self):
        rows = [HOUSE_ROW, RULE_ROW, "deal hi yes", "pays hi yes", "verdict", "menu ana yes", RING_ROW, "verdict",
                "pays hi yes", BEST_ROW, "pays lo so", "menu bo lo", "house x", house_row(HOUSE), "verdict"]
        told = [[say(desk, row) for row in rows] for desk in (Desk(), Desk())]
        self.assertEqual(told[0], told[1])
        desk = Desk()
        self.assertEqual([say(desk, row) for row in rows], [say(desk, row) for row in rows])

    def test_no_clock_chance_or_files(self):
        for path in sorted(PACKAGE.glob("*.py")):
            for node in ast.walk(ast.parse(path.read_text())):
                self.assertNotIsInstance(node, ast.Import)
                if isinstance(node, ast.ImportFrom):
                    self.assertTrue(node.module.startswith("trueword."))
                if isinstance(node, ast.Name):
                    self.assertNotIn(node.id, ("open", "hash", "id", "input", "print", "__import__", "eval", "exec"))


class TestWholeNumbers(unittest.TestCase):
    """A truth is no whole number, wherever anything is taken."""

    def test_truths(self):
        for truth in (True, False):
            self.assertIs(is_grid([[truth]]), False)
            check_refused(self, "NoHouse", house_of, ["x"], [("a", ["u"], [[truth]])])
            check_refused(self, "NoMenu", menus_table, HOUSE, 0, {others: {"park": truth} for others in MENUS})
            check_refused(self, "NoWeight", best_table, HOUSE, [truth, 1], [0, 0])
            check_refused(self, "NoWeight", best_table, HOUSE, [1, 1], [truth, 0])
            check_refused(self, "NoShare", summed_grids, [GRID, GRID], [truth, 1])
            check_refused(self, "NoShare", summed_pays, [[1], [1]], [1, truth])
            check_refused(self, "NoShare", mean_grid, HOUSE, TABLE, 0, {others: truth for others in SHARES})

    def test_told_numbers_are_no_truths(self):
        for function, *handed in CALLS:
            for number in self.numbers(answer(function, handed)):
                self.assertIs(type(number), int)

    def numbers(self, thing):
        if isinstance(thing, dict):
            return [number for value in thing.values() for number in self.numbers(value)]
        if isinstance(thing, (list, tuple)):
            return [number for value in thing for number in self.numbers(value)]
        return [thing] if isinstance(thing, int) and thing not in (True, False) else []


class TestEveryGrid(unittest.TestCase):
    def test_honest_payments_or_a_ring_never_both(self):
        seen = {True: 0, False: 0}
        for grid in list(mixed_grids()) + list(small_grids()):
            found = ring(grid)
            seen[found is None] += 1
            if found is None:
                self.check_payments(grid)
            else:
                self.assertLess(round_sum(grid, found), 0)
                self.assertEqual(len(set(found)), len(found))
                self.assertGreater(len(found), 1)
                for call in (greatest, least):
                    check_refused(self, "NoPays", call, grid)
                self.assertEqual(room(grid)[0], "ring")
        self.assertGreater(min(seen.values()), 100)

    def check_payments(self, grid):
        high, low = greatest(grid)[0], least(grid)[0]
        self.assertIsNone(first_gain(grid, high))
        self.assertIsNone(first_gain(grid, low))
        self.assertEqual(beyond(grid, high), [])
        self.assertGreaterEqual(min(low), 0)
        told = room(grid)
        if any(one > other for one, other in zip(low, high)) or min(high) < 0:
            self.assertEqual(told[0], "short")
            self.assertLess(grid[told[1][0]][told[1][0]] + along(grid, told[1]), 0)
        else:
            self.assertEqual(told, ("room", low, high))

    def test_no_ring_has_fewer_words(self):
        for grid in small_grids():
            fewest = fewest_round_below_zero(grid)
            found = ring(grid)
            self.assertEqual(None if found is None else len(found), fewest)
            if found is None:
                self.assertEqual(greatest(grid)[0], payments_within_by_roads(grid))


class TestEveryRule(unittest.TestCase):
    """Houses with rules written as text, through all that is told of them."""

    def tried(self, seed, count):
        for house, clauses, last in drawn_rules(seed, count):
            yield house, table_of(house, read_rule(house, written(clauses, last)))

    def test_a_rule_deals_what_its_plain_reading_tells(self):
        for house, clauses, last in drawn_rules(111, 120):
            text = written(clauses, last)
            rule = read_rule(house, text)
            self.assertEqual(shown(house, rule), text)
            desk = Desk()
            desk.say(house_row(house))
            desk.say(f"rule {text}")
            for row in plain_rows(house):
                plain = dealt_plainly(clauses, last, row)
                self.assertEqual(dealt(rule, row), plain)
                self.assertEqual(desk.say("deal " + " ".join(row)), plain)

    def test_told_payable_with_payments_or_a_ring(self):
        seen = {"ring": 0, "pays": 0}
        for house, table in self.tried(112, 150):
            told = verdict(house, table)
            seen[told[0]] += 1
            if told[0] == "ring":
                kind, k, others, words = told
                self.assertLess(round_sum(plain_grid(house, table, k, others), words), 0)
                check_refused(self, "NoPays", menu_of, house, table, k, others)
            else:
                self.check_nobody_gains(house, table, told[1])
        self.assertGreater(min(seen.values()), 30)

    def check_nobody_gains(self, house, table, papers):
        self.assertEqual([(k, others) for k, others, pays, ways in papers], columns_of(house))
        for k, others, pays, ways in papers:
            rows = rows_beside(house, k, others)
            words = house[1][k][1]
            for t, s in product(range(len(words)), repeat=2):
                true = worth_of(house, k, words[t], table[rows[t]]) - pays[t]
                false = worth_of(house, k, words[t], table[rows[s]]) - pays[s]
                self.assertGreaterEqual(true, false)
                self.assertGreaterEqual(true, 0)

    def test_payable_rules_are_those_that_menus_make(self):
        for house, table in self.tried(113, 80):
            payable = verdict(house, table)[0] == "pays"
            made = [self.made_by_menus(house, table, k) for k in range(len(house[1]))]
            self.assertEqual(all(made), payable)

    def made_by_menus(self, house, table, k):
        for others in plain_others(house, k):
            try:
                menu = menu_of(house, table, k, others)
            except TrueError:
                return False
            for word, row in zip(house[1][k][1], rows_beside(house, k, others)):
                left = {outcome: worth_of(house, k, word, outcome) - price for outcome, price in menu.items()}
                self.assertEqual(left[table[row]], max(left.values()))
        return True

    def test_weighted_best_rules_are_payable_by_what_being_there_takes(self):
        source = Random(114)
        for house, clauses, last in drawn_rules(114, 40):
            weights = [source.randint(1, 4) for _ in house[1]]
            handicaps = [source.randint(-5, 5) for _ in house[0]]
            table = best_table(house, weights, handicaps)
            self.assertEqual(verdict(house, table)[0], "pays")
            for k, others in columns_of(house):
                grid = [[weights[k] * worth for worth in row] for row in plain_grid(house, table, k, others)]
                pays = [pivots(house, weights, handicaps, row)[k] for row in rows_beside(house, k, others)]
                self.assertIsNone(first_gain(grid, pays))
                self.assertGreaterEqual(min(pays), 0)

    def test_what_holds_for_each_row_of_the_others_holds_in_the_mean(self):
        source = Random(115)
        seen = 0
        for house, table in self.tried(115, 100):
            told = verdict(house, table)
            if told[0] == "ring":
                continue
            for k in range(len(house[1])):
                papers = [(others, pays) for j, others, pays, ways in told[1] if j == k]
                shares = {others: source.randint(1, 5) for others, pays in papers}
                grid = mean_grid(house, table, k, shares)
                pays = summed_pays([pays for others, pays in papers], [shares[others] for others, pays in papers])
                self.assertIsNone(ring(grid))
                self.assertIsNone(first_gain(grid, pays))
                self.assertEqual(beyond(grid, pays), [])
                seen += len(papers) > 1
        self.assertGreater(seen, 50)

    def test_sums_of_grids_without_a_ring(self):
        for size in range(1, 9):
            grids = list(ringless_grids(size, 9, 1))
            self.assertIsNone(ring(summed_grids(grids, list(range(9)))))


if __name__ == "__main__":
    unittest.main()
