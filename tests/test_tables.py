import unittest
from collections import OrderedDict
from copy import deepcopy

from houses_tried import HOUSE, TABLE, columns_of, lists_of, plain_grid, turning_table
from samples import BIG, Loud
from trueword.grids import is_grid
from trueword.houses import house_of, rows_of
from trueword.tables import grid_of, is_table


class TestIsTable(unittest.TestCase):
    def test_tables(self):
        self.assertIs(is_table(HOUSE, TABLE), True)
        for outcome in HOUSE[0]:
            self.assertIs(is_table(HOUSE, {row: outcome for row in rows_of(HOUSE)}), True)

    def test_the_order_of_the_keys_is_free(self):
        self.assertIs(is_table(HOUSE, {row: TABLE[row] for row in reversed(TABLE)}), True)
        self.assertIs(is_table(HOUSE, OrderedDict(TABLE)), True)

    def test_tables_of_each_size(self):
        for sizes in ([1], [8], [2, 3], [8, 8, 4], [4, 4, 4, 4]):
            for outcomes in (1, 2, 8):
                house = house_of(*lists_of(outcomes, sizes))
                table = turning_table(house)
                self.assertIs(is_table(house, table), True)
                table.pop(rows_of(house)[-1])
                self.assertIs(is_table(house, table), False)

    def test_a_row_too_few(self):
        for row in TABLE:
            thing = dict(TABLE)
            thing.pop(row)
            self.assertIs(is_table(HOUSE, thing), False)
        self.assertIs(is_table(HOUSE, {}), False)

    def test_a_key_too_many(self):
        for key in (("hi",), (), ("hi", "yes", "no"), ("yes", "hi"), ("hi", "hi"), "hi", "", None, 0, True, ("hi", 0),
                    frozenset()):
            thing = dict(TABLE)
            thing[key] = "park"
            self.assertIs(is_table(HOUSE, thing), False, key)

    def test_another_key_in_the_place_of_a_row(self):
        for row in TABLE:
            for key in (("hi", "hi"), row[::-1], row[0], row + ("hi",), None, ()):
                thing = dict(TABLE)
                thing.pop(row)
                thing[key] = "park"
                self.assertIs(is_table(HOUSE, thing), False, key)

    def test_another_outcome(self):
        for row in TABLE:
            for value in ("lake", "", "par", "park ", "Park", "hi", "ana", None, 0, 1, True, False, ("park",), ["park"],
                          ["road", "park"], b"park", {}, 0.5, Loud()):
                thing = dict(TABLE)
                thing[row] = value
                self.assertIs(is_table(HOUSE, thing), False)

    def test_things_of_any_kind(self):
        for thing in (None, True, False, 0, 6, -1, 2.5, "", "park", "abcdef", b"", (), [], list(TABLE),
                      list(TABLE.items()), tuple(TABLE.items()), set(TABLE), frozenset(TABLE), range(6), object(), dict,
                      is_table, HOUSE, TABLE.items(), iter(TABLE), Loud()):
            self.assertIs(is_table(HOUSE, thing), False)

    def test_a_table_of_another_house(self):
        other = house_of(*lists_of(2, [2, 3]))
        self.assertIs(is_table(other, TABLE), False)
        self.assertIs(is_table(HOUSE, turning_table(other)), False)

    def test_a_house_of_one_hand(self):
        house = house_of(["x", "y"], [("a", ["u", "v"], [[1, 2], [3, 4]])])
        self.assertIs(is_table(house, {("u",): "x", ("v",): "y"}), True)
        self.assertIs(is_table(house, {"u": "x", "v": "y"}), False)


class TestGridOf(unittest.TestCase):
    def test_told_by_name(self):
        # Ana is dealt park and road for hi and lo beside yes, road twice beside no, park twice beside so.
        self.assertEqual(grid_of(HOUSE, TABLE, 0, ("yes",)), [[5, 0], [-1, 2]])
        self.assertEqual(grid_of(HOUSE, TABLE, 0, ("no",)), [[0, 0], [2, 2]])
        self.assertEqual(grid_of(HOUSE, TABLE, 0, ("so",)), [[5, 5], [-1, -1]])
        self.assertEqual(grid_of(HOUSE, TABLE, 1, ("hi",)), [[3, 3, 3], [0, 1, 0], [7, -7, 7]])
        self.assertEqual(grid_of(HOUSE, TABLE, 1, ("lo",)), [[3, 3, 3], [1, 1, 0], [-7, -7, 7]])

    def test_one_hand(self):
        house = house_of(["x", "y"], [("a", ["v", "u"], [[1, BIG], [-BIG, 4]])])
        self.assertEqual(grid_of(house, {("u",): "x", ("v",): "y"}, 0, ()), [[BIG, 1], [4, -BIG]])

    def test_each_hand_and_each_row_of_the_others(self):
        for sizes in ([3], [8, 8], [2, 3, 5], [8, 8, 4], [4, 2, 3, 5]):
            house = house_of(*lists_of(3, sizes))
            table = turning_table(house)
            for k, others in columns_of(house):
                told = grid_of(house, table, k, others)
                self.assertEqual(told, plain_grid(house, table, k, others))
                self.assertTrue(is_grid(told))


class TestAskersOwn(unittest.TestCase):
    def test_nothing_handed_in_is_changed(self):
        table = dict(TABLE)
        is_table(HOUSE, table)
        grid_of(HOUSE, table, 1, ("hi",))
        self.assertEqual(list(table.items()), list(TABLE.items()))
        thing = dict(TABLE)
        thing[("hi", "yes")] = ["park"]
        before = deepcopy(thing)
        is_table(HOUSE, thing)
        self.assertEqual(thing, before)

    def test_told_grids_may_be_changed(self):
        before = grid_of(HOUSE, TABLE, 0, ("no",))
        one, other = grid_of(HOUSE, TABLE, 0, ("no",)), grid_of(HOUSE, TABLE, 0, ("no",))
        one[0][0] = 99
        self.assertEqual(one[1], before[1])
        one.clear()
        self.assertEqual(other, before)
        self.assertEqual(grid_of(HOUSE, TABLE, 0, ("no",)), before)

    def test_no_two_rows_told_are_one(self):
        house = house_of(["x"], [("a", ["u", "v"], [[1], [1]])])
        told = grid_of(house, {("u",): "x", ("v",): "x"}, 0, ())
        told[0][0] = 99
        self.assertEqual(told, [[99, 1], [1, 1]])

    def test_what_is_changed_behind_the_call_changes_nothing_told(self):
        table = dict(TABLE)
        told = grid_of(HOUSE, table, 0, ("yes",))
        table[("hi", "yes")] = "road"
        table.clear()
        self.assertEqual(told, [[5, 0], [-1, 2]])


if __name__ == "__main__":
    unittest.main()
