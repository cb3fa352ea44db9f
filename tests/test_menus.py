import unittest
from collections import OrderedDict
from copy import deepcopy
from itertools import product
from random import Random

from houses_tried import (HOUSE, TABLE, columns_of, drawn_house, drawn_houses, house_of_grid, plain_grid, plain_others,
                          plain_rows, rows_beside, tables_tried, worth_of)
from samples import BIG, THINGS, Loud, check_refused, fewest_round_below_zero, mixed_grids, self_holder
from trueword.grids import first_gain
from trueword.menus import menu_of, menus_table, pick
from trueword.pays import greatest
from trueword.rings import ring
from trueword.tables import is_table
from trueword.verdicts import verdict

MENUS = {("yes",): {"park": 3, "road": 0}, ("no",): {"road": -1}, ("so",): {"park": BIG}}
ONE = (("x", "y", "z"), (("a", ("u", "v"), ((4, 9, 1), (-2, 0, 5))),))


class Sullen(Loud):
    """A thing that can be a key, but not be compared."""

    def __hash__(self):
        return 5


def plain_pick(house, k, menu, word):
    left = {outcome: worth_of(house, k, word, outcome) - menu[outcome] for outcome in house[0] if outcome in menu}
    return [outcome for outcome in house[0] if outcome in menu and left[outcome] == max(left.values())][0]


def all_menus(outcomes, prices):
    for chosen in product(*[[None] + list(prices) for _ in outcomes]):
        menu = {outcome: price for outcome, price in zip(outcomes, chosen) if price is not None}
        if menu:
            yield menu


def drawn_menus(source, house, k, prices):
    menus = {}
    for others in plain_others(house, k):
        offered = source.sample(house[0], source.randint(1, len(house[0])))
        menus[others] = {outcome: source.choice(prices) for outcome in offered}
    return menus


def menus_told(house, table, k):
    return {others: menu_of(house, table, k, others) for others in plain_others(house, k)}


class TestPick(unittest.TestCase):
    def test_told_by_name(self):
        menu = {"park": 3, "road": 0}
        self.assertEqual(pick(HOUSE, 0, menu, "hi"), "park")
        self.assertEqual(pick(HOUSE, 0, menu, "lo"), "road")
        self.assertEqual(pick(HOUSE, 1, menu, "yes"), "road")
        self.assertEqual(pick(HOUSE, 1, menu, "so"), "park")

    def test_of_several_the_first_in_the_order_of_outcomes(self):
        for menu in ({"park": 5, "road": 0}, {"road": 0, "park": 5}, {"road": -5, "park": 0}):
            self.assertEqual(pick(HOUSE, 0, menu, "hi"), "park")
        self.assertEqual(pick(HOUSE, 0, {"road": 0, "park": 6}, "hi"), "road")
        self.assertEqual(pick(HOUSE, 1, {"road": 7, "park": 7}, "yes"), "park")
        self.assertEqual(pick(ONE, 0, {"z": 0, "y": 8}, "u"), "y")
        self.assertEqual(pick(ONE, 0, {"z": 0, "x": 3, "y": 8}, "u"), "x")
        self.assertEqual(pick(ONE, 0, {"z": 5, "y": 0, "x": 0}, "v"), "y")
        # Neither by letters nor by worth.
        house = (("b", "a"), (("c", ("w",), ((1, 9),)),))
        self.assertEqual(pick(house, 0, {"a": 8, "b": 0}, "w"), "b")

    def test_menus_of_one_outcome(self):
        for outcome in ONE[0]:
            for price in (-BIG, -1, 0, 1, BIG):
                for word in ("u", "v"):
                    self.assertEqual(pick(ONE, 0, {outcome: price}, word), outcome)

    def test_all_menus_of_small_prices(self):
        for menu in all_menus(ONE[0], range(-5, 6, 2)):
            for word in ("u", "v"):
                told = pick(ONE, 0, menu, word)
                self.assertEqual(told, plain_pick(ONE, 0, menu, word))
                self.assertEqual(pick(ONE, 0, dict(reversed(menu.items())), word), told)

    def test_each_hand_of_drawn_houses(self):
        source = Random(19)
        for house in drawn_houses(19, 40, -3, 3):
            for k, (name, words, worths) in enumerate(house[1]):
                for menu in drawn_menus(source, house, k, range(-3, 4)).values():
                    for word in words:
                        self.assertEqual(pick(house, k, menu, word), plain_pick(house, k, menu, word))

    def test_prices_of_sixty_figures(self):
        self.assertEqual(pick(ONE, 0, {"x": BIG, "y": BIG}, "u"), "y")
        self.assertEqual(pick(ONE, 0, {"x": -BIG, "y": -BIG + 5}, "u"), "x")
        self.assertEqual(pick(ONE, 0, {"x": -BIG, "y": -BIG + 4}, "u"), "y")
        house = (("x", "y"), (("a", ("u",), ((BIG, -BIG),)),))
        self.assertEqual(pick(house, 0, {"x": BIG, "y": -BIG}, "u"), "x")
        self.assertEqual(pick(house, 0, {"x": BIG, "y": -BIG - 1}, "u"), "y")
        self.assertEqual(pick(house, 0, {"x": BIG, "y": -BIG + 1}, "u"), "x")


class TestMenuOf(unittest.TestCase):
    def check(self, house, table, k, others):
        grid = plain_grid(house, table, k, others)
        rows = rows_beside(house, k, others)
        told = menu_of(house, table, k, others)
        self.assertIs(type(told), dict)
        self.assertEqual(set(told), {table[row] for row in rows})
        pays = greatest(grid)[0]
        self.assertEqual([told[table[row]] for row in rows], pays)
        for word, row in zip(house[1][k][1], rows):
            left = {outcome: worth_of(house, k, word, outcome) - price for outcome, price in told.items()}
            self.assertEqual(left[table[row]], max(left.values()))
        return told

    def test_told_by_name(self):
        self.assertEqual(menu_of(HOUSE, TABLE, 0, ("yes",)), {"park": 5, "road": 2})
        self.assertEqual(menu_of(HOUSE, TABLE, 0, ("no",)), {"road": 0})
        self.assertEqual(menu_of(HOUSE, TABLE, 0, ("so",)), {"park": -1})
        self.assertEqual(menu_of(HOUSE, TABLE, 1, ("hi",)), {"park": 1, "road": 1})
        self.assertEqual(menu_of(HOUSE, TABLE, 1, ("lo",)), {"park": 7, "road": 1})

    def test_each_column_of_tables(self):
        seen = {True: 0, False: 0}
        for house, table in tables_tried():
            for k, others in columns_of(house):
                ringless = fewest_round_below_zero(plain_grid(house, table, k, others)) is None
                seen[ringless] += 1
                if ringless:
                    self.check(house, table, k, others)
                else:
                    check_refused(self, "NoPays", menu_of, house, table, k, others)
        self.assertGreater(min(seen.values()), 100)

    def test_a_ring_elsewhere_refuses_nothing(self):
        table = dict(TABLE)
        table[("hi", "yes")], table[("lo", "yes")] = "road", "park"
        self.assertEqual(verdict(HOUSE, table)[:3], ("ring", 0, ("yes",)))
        check_refused(self, "NoPays", menu_of, HOUSE, table, 0, ("yes",))
        self.assertEqual(menu_of(HOUSE, table, 0, ("no",)), {"road": 0})
        self.assertEqual(menu_of(HOUSE, table, 0, ("so",)), {"park": -1})

    def test_grids_of_one_to_eight_words(self):
        for grid in mixed_grids():
            house, table = house_of_grid(grid, 1, 1)
            others = ("wa", "wb")
            if ring(grid) is None:
                self.assertEqual(self.check(house, table, 1, others), dict(zip(house[0], greatest(grid)[0])))
            else:
                check_refused(self, "NoPays", menu_of, house, table, 1, others)

    def test_words_dealt_one_outcome_pay_alike(self):
        source = Random(8)
        shared = 0
        for _ in range(120):
            house = drawn_house(source, 3, [5, 1], -2, 6)
            table = {row: source.choice(house[0][:2]) for row in plain_rows(house)}
            if ring(plain_grid(house, table, 0, ("wa",))) is None:
                shared += 1
                self.assertLessEqual(len(self.check(house, table, 0, ("wa",))), 2)
        self.assertGreater(shared, 10)

    def test_worths_of_sixty_figures(self):
        worths = ((BIG, 0, -BIG), (BIG, 0, -BIG), (BIG, 0, -BIG))
        house = (("x", "y", "z"), (("a", ("u", "v", "w"), worths),))
        told = self.check(house, {("u",): "x", ("v",): "y", ("w",): "z"}, 0, ())
        self.assertEqual(told, {"x": BIG, "y": 0, "z": -BIG})


class TestMenusTable(unittest.TestCase):
    def check(self, house, k, menus):
        told = menus_table(house, k, menus)
        self.assertIs(type(told), dict)
        self.assertIs(is_table(house, told), True)
        words = house[1][k][1]
        for others in plain_others(house, k):
            menu = menus[others]
            dealt = [told[row] for row in rows_beside(house, k, others)]
            self.assertEqual(dealt, [plain_pick(house, k, menu, word) for word in words])
            grid = plain_grid(house, told, k, others)
            self.assertIsNone(ring(grid))
            if len(grid) < 5:
                self.assertIsNone(fewest_round_below_zero(grid))
            self.assertIsNone(first_gain(grid, [menu[outcome] for outcome in dealt]))
        return told

    def test_told_by_name(self):
        self.assertEqual(menus_table(HOUSE, 0, MENUS), TABLE)
        self.assertEqual(list(menus_table(HOUSE, 0, MENUS)), plain_rows(HOUSE))
        menus = {("lo",): {"road": 0, "park": 1}, ("hi",): {"park": 0}}
        self.assertEqual(menus_table(HOUSE, 1, menus), {
            ("hi", "yes"): "park", ("hi", "no"): "park", ("hi", "so"): "park",
            ("lo", "yes"): "road", ("lo", "no"): "road", ("lo", "so"): "park",
        })

    def test_the_order_of_the_keys_is_free(self):
        menus = OrderedDict((others, OrderedDict(reversed(menu.items()))) for others, menu in reversed(MENUS.items()))
        self.assertEqual(menus_table(HOUSE, 0, menus), TABLE)

    def test_one_hand(self):
        for menu in all_menus(ONE[0], (-4, 0, 3, 7)):
            told = self.check(ONE, 0, {(): menu})
            self.assertEqual(verdict(ONE, told)[0], "pays")

    def test_drawn_menus(self):
        source = Random(20)
        for house in drawn_houses(20, 60):
            for k in range(len(house[1])):
                for prices in (range(-2, 3), (0,), (-BIG, BIG, 0), range(-9, 10)):
                    self.check(house, k, drawn_menus(source, house, k, prices))

    def test_the_largest_houses(self):
        source = Random(21)
        for sizes in ([8, 8, 4], [4, 4, 4, 4]):
            house = drawn_house(source, 8, sizes)
            for k in range(len(sizes)):
                menus = drawn_menus(source, house, k, range(-4, 5))
                told = menus_table(house, k, menus)
                for row in plain_rows(house):
                    self.assertEqual(told[row], plain_pick(house, k, menus[row[:k] + row[k + 1:]], row[k]))

    def test_prices_of_any_length(self):
        for price in (BIG, -BIG, BIG + 1, -BIG - 1, 10 ** 200, -10 ** 200):
            menus = dict(MENUS)
            menus[("yes",)] = {"park": price, "road": 0}
            told = self.check(HOUSE, 0, menus)
            self.assertEqual(told[("hi", "yes")], "road" if price > 0 else "park")

    def test_menus_of_a_table_deal_what_is_worth_as_much(self):
        payable = 0
        for house, table in tables_tried():
            if verdict(house, table)[0] == "pays":
                payable += 1
                for k in range(len(house[1])):
                    self.check_as_good(house, table, k)
        self.assertGreater(payable, 60)

    def check_as_good(self, house, table, k):
        menus = menus_told(house, table, k)
        made = self.check(house, k, menus)
        for row in plain_rows(house):
            menu = menus[row[:k] + row[k + 1:]]
            left = [worth_of(house, k, row[k], outcome) - menu[outcome] for outcome in (made[row], table[row])]
            self.assertEqual(left[0], left[1])

    def test_menus_of_grids_of_one_to_eight_words(self):
        for grid in mixed_grids():
            if ring(grid) is None:
                self.check_as_good(*house_of_grid(grid), 0)

    def test_payable_tables_are_just_those_that_menus_make(self):
        # A menu makes a table where what is dealt leaves as much as anything on it; among alike ones the pick is free.
        for numbers in product((-1, 0, 1), repeat=4):
            house = (("x", "y"), (("a", ("u", "v"), (numbers[:2], numbers[2:])),))
            for dealt in product(house[0], repeat=2):
                table = {("u",): dealt[0], ("v",): dealt[1]}
                made = any(self.leaves_most(house, menu, table) for menu in all_menus(house[0], range(-2, 3)))
                self.assertEqual(verdict(house, table)[0] == "pays", made)

    def leaves_most(self, house, menu, table):
        for (word,), outcome in table.items():
            left = {one: worth_of(house, 0, word, one) - price for one, price in menu.items()}
            if outcome not in left or left[outcome] < max(left.values()):
                return False
        return True


class TestNoMenu(unittest.TestCase):
    def refused(self, thing):
        check_refused(self, "NoMenu", menus_table, HOUSE, 0, thing)

    def with_menu(self, menu):
        """The good menus, but for this one, at each place in turn."""
        for others in MENUS:
            menus = deepcopy(MENUS)
            menus[others] = menu
            yield menus

    def test_of_anything(self):
        for thing in THINGS + [self_holder(), list(MENUS), list(MENUS.items()), tuple(MENUS.items()), MENUS.items(),
                               set(MENUS), HOUSE, TABLE, {(): {"park": 0}}, {None: None}, Sullen()]:
            self.refused(thing)
            check_refused(self, "NoMenu", menus_table, HOUSE, 1, thing)

    def test_a_row_of_the_others_too_few(self):
        for others in MENUS:
            menus = deepcopy(MENUS)
            menus.pop(others)
            self.refused(menus)

    def test_another_key(self):
        for key in ((), ("hi",), ("yes", "no"), ("hi", "yes"), "yes", "", None, 0, True, ("YES",), (None,), frozenset(),
                    b"yes", 2.5, Sullen(), (Sullen(),)):
            menus = deepcopy(MENUS)
            menus[key] = {"park": 0}
            self.refused(menus)
            for others in MENUS:
                instead = dict(menus)
                instead.pop(others)
                self.assertEqual(len(instead), len(MENUS))
                self.refused(instead)

    def test_a_menu_that_is_no_dict_or_is_empty(self):
        for thing in THINGS + [self_holder(), [("park", 0)], (("park", 0),), {"park"}, ["park", "road"], "park", 3,
                               {"park": 0}.items(), {"park": 0}.keys()]:
            for menus in self.with_menu(thing):
                self.refused(menus)

    def test_an_outcome_that_the_house_does_not_have(self):
        for outcome in ("lake", "", "par", "Park", "park ", "hi", "ana", "yes", None, 0, True, ("park",), b"park", 2.5,
                        frozenset(("park",)), Sullen()):
            for menus in self.with_menu({outcome: 0}):
                self.refused(menus)
            for menus in self.with_menu({"park": 0, outcome: 0}):
                self.refused(menus)
            for menus in self.with_menu({outcome: 0, "road": 0, "park": 0}):
                self.refused(menus)

    def test_a_price_that_is_no_whole_number(self):
        for price in (True, False, None, "", "0", "3", 1.0, 0.5, 1j, (), (1,), [], [1], {}, {"park": 1}, b"1", Loud(),
                      Sullen(), int, float("inf"), float("nan"), range(1)):
            for menus in self.with_menu({"park": price}):
                self.refused(menus)
            for menus in self.with_menu({"park": 0, "road": price}):
                self.refused(menus)
            for menus in self.with_menu({"road": price, "park": 0}):
                self.refused(menus)

    def test_menus_for_another_hand_or_another_house(self):
        check_refused(self, "NoMenu", menus_table, HOUSE, 1, MENUS)
        check_refused(self, "NoMenu", menus_table, ONE, 0, MENUS)
        self.refused({(): {"x": 0}})
        check_refused(self, "NoMenu", menus_table, ONE, 0, {(): {"park": 0}})
        check_refused(self, "NoMenu", menus_table, ONE, 0, {})
        check_refused(self, "NoMenu", menus_table, ONE, 0, {"x": 0})
        self.assertEqual(menus_table(ONE, 0, {(): {"x": 0}}), {("u",): "x", ("v",): "x"})

    def test_what_is_refused_stays_as_it_was(self):
        for menu in ({}, {"park": None}, {"lake": 0}, [0]):
            for menus in self.with_menu(menu):
                before = deepcopy(menus)
                self.refused(menus)
                self.assertEqual(menus, before)
                self.assertEqual(list(menus), list(before))


class TestAskersOwn(unittest.TestCase):
    def test_nothing_handed_in_is_changed(self):
        menus, table = deepcopy(MENUS), dict(TABLE)
        menus_table(HOUSE, 0, menus)
        for others, menu in menus.items():
            for word in ("hi", "lo"):
                pick(HOUSE, 0, menu, word)
            menu_of(HOUSE, table, 0, others)
        crossed = dict(TABLE)
        crossed[("hi", "yes")], crossed[("lo", "yes")] = "road", "park"
        before = dict(crossed)
        check_refused(self, "NoPays", menu_of, HOUSE, crossed, 0, ("yes",))
        self.assertEqual(crossed, before)
        self.assertEqual([(others, list(menu.items())) for others, menu in menus.items()],
                         [(others, list(menu.items())) for others, menu in MENUS.items()])
        self.assertEqual(list(table.items()), list(TABLE.items()))

    def test_told_menus_and_tables_may_be_changed(self):
        one, other = menu_of(HOUSE, TABLE, 0, ("yes",)), menu_of(HOUSE, TABLE, 0, ("yes",))
        one["park"] = 99
        one.pop("road")
        self.assertEqual(other, {"park": 5, "road": 2})
        self.assertEqual(menu_of(HOUSE, TABLE, 0, ("yes",)), {"park": 5, "road": 2})
        one, other = menus_table(HOUSE, 0, MENUS), menus_table(HOUSE, 0, MENUS)
        one.clear()
        self.assertEqual(other, TABLE)
        self.assertEqual(menus_table(HOUSE, 0, MENUS), TABLE)

    def test_what_is_changed_behind_the_call_changes_nothing_told(self):
        menus, table = deepcopy(MENUS), dict(TABLE)
        made, menu = menus_table(HOUSE, 0, menus), menu_of(HOUSE, table, 1, ("lo",))
        for prices in menus.values():
            prices.clear()
        menus.clear()
        for row in table:
            table[row] = "park"
        self.assertEqual(made, TABLE)
        self.assertEqual(menu, {"park": 7, "road": 1})

    def test_one_menu_at_several_places(self):
        menu = {"park": 3, "road": 0}
        told = menus_table(HOUSE, 0, {("yes",): menu, ("no",): menu, ("so",): menu})
        self.assertEqual(told, {row: "park" if row[0] == "hi" else "road" for row in plain_rows(HOUSE)})


if __name__ == "__main__":
    unittest.main()
