import unittest
from copy import deepcopy
from itertools import product
from random import Random

from houses_tried import (HOUSE, TABLE, columns_of, drawn_house, drawn_houses, drawn_table, house_of_grid, plain_grid,
                          plain_others, plain_rows, tables_tried)
from samples import (BIG, THINGS, Loud, all_grids, check_refused, drawn_grids, fewest_round_below_zero, grid_of_turns,
                     honest_lists, payments_by_roads, payments_within_by_roads, ringless_grids, roads, self_holder)
from trueword.grids import along, beyond, first_gain, is_grid, round_sum
from trueword.means import mean_grid, summed_grids, summed_pays
from trueword.pays import greatest, least
from trueword.rings import ring
from trueword.rooms import apart, room, within
from trueword.verdicts import verdict

ONE = [[5, 1], [2, 4]]
TWO = [[0, -3], [10, 7]]
SHARES = {("yes",): 2, ("no",): 0, ("so",): 1}
NO_SHARE = (-1, -5, -BIG, True, False, None, "", "1", "0", 1.0, 0.5, 1j, (), (1,), [], [1], {}, {1: 1}, b"1", int,
            float("inf"), float("nan"), Loud())


def plain_grid_sum(grids, shares):
    size = len(grids[0])
    return [[sum(share * grid[t][s] for grid, share in zip(grids, shares)) for s in range(size)] for t in range(size)]


def plain_pays_sum(lists, shares):
    return [sum(share * pays[t] for pays, share in zip(lists, shares)) for t in range(len(lists[0]))]


def drawn_shares(source, count, numbers):
    shares = [source.choice(numbers) for _ in range(count)]
    shares[source.randrange(count)] = max(numbers)
    return shares


def groups_of(grids, source):
    """The grids in groups of one to five, with shares for each: some 0, some of sixty figures."""
    grids = list(grids)
    while grids:
        group, grids = grids[:5], grids[5:]
        for count in range(1, len(group) + 1):
            for numbers in ((0, 1), (0, 1, 2, 7), (0, 3, BIG)):
                yield group[:count], drawn_shares(source, count, numbers)


def ringless_groups(seed):
    source = Random(seed)
    for size in range(1, 9):
        for slack in (0, 2):
            yield from groups_of(ringless_grids(size, 10, slack), source)


class TestSummedGrids(unittest.TestCase):
    def test_told_by_name(self):
        self.assertEqual(summed_grids([ONE, TWO], [1, 1]), [[5, -2], [12, 11]])
        self.assertEqual(summed_grids([ONE, TWO], [3, 2]), [[15, -3], [26, 26]])
        self.assertEqual(summed_grids([ONE, TWO, ONE], [1, 0, 4]), [[25, 5], [10, 20]])

    def test_one_grid(self):
        self.assertEqual(summed_grids([ONE], [1]), ONE)
        self.assertEqual(summed_grids([ONE], [7]), [[35, 7], [14, 28]])
        self.assertEqual(summed_grids([[[-3]]], [BIG]), [[-3 * BIG]])

    def test_shares_of_nothing(self):
        self.assertEqual(summed_grids([ONE, TWO], [0, 1]), TWO)
        self.assertEqual(summed_grids([ONE, TWO], [1, 0]), ONE)
        self.assertEqual(summed_grids([ONE, TWO, TWO], [0, 0, 2]), [[0, -6], [20, 14]])

    def test_shares_of_sixty_figures(self):
        self.assertEqual(summed_grids([ONE, TWO], [BIG, 1]), [[5 * BIG, BIG - 3], [2 * BIG + 10, 4 * BIG + 7]])
        grid = [[BIG, -BIG], [0, BIG]]
        self.assertEqual(summed_grids([grid, grid], [BIG, BIG]), [[2 * BIG ** 2, -2 * BIG ** 2], [0, 2 * BIG ** 2]])

    def test_shares_of_more_figures_are_shares(self):
        self.assertEqual(summed_grids([ONE, TWO], [10 ** 60, 0]),
                         [[5 * 10 ** 60, 10 ** 60], [2 * 10 ** 60, 4 * 10 ** 60]])
        self.assertEqual(summed_pays([[1, -2]], [10 ** 200]), [10 ** 200, -2 * 10 ** 200])

    def test_place_by_place(self):
        source = Random(81)
        for size in range(1, 9):
            for grids, shares in groups_of(drawn_grids(size, 15, -9, 9), source):
                told = summed_grids(grids, shares)
                self.assertIs(type(told), list)
                self.assertEqual([type(row) for row in told], [list] * size)
                self.assertEqual(told, plain_grid_sum(grids, shares))

    def test_three_hundred_grids(self):
        grids = list(drawn_grids(3, 300, -9, 9))
        shares = list(range(300))
        self.assertEqual(summed_grids(grids, shares), plain_grid_sum(grids, shares))

    def test_a_sum_of_grids_without_a_ring_has_none(self):
        for grids, shares in ringless_groups(82):
            told = summed_grids(grids, shares)
            self.assertIsNone(ring(told))
            if len(told) < 5:
                self.assertIsNone(fewest_round_below_zero(told))

    def test_a_ring_can_come_and_go_in_a_sum(self):
        crossed = [[0, 1], [1, 0]]
        self.assertIsNone(ring(summed_grids([crossed, ONE], [1, 1])))
        self.assertEqual(len(ring(summed_grids([crossed, ONE], [4, 1]))), 2)
        self.assertIsNone(ring(summed_grids([crossed, ONE], [3, 1])))


class TestSummedPays(unittest.TestCase):
    def test_told_by_name(self):
        self.assertEqual(summed_pays([[1, 2, 3], [10, 0, -10]], [1, 1]), [11, 2, -7])
        self.assertEqual(summed_pays([[1, 2, 3], [10, 0, -10]], [5, 2]), [25, 10, -5])
        self.assertEqual(summed_pays([[1, 2], [3, 4], [5, 6]], [0, 1, 0]), [3, 4])

    def test_one_list(self):
        self.assertEqual(summed_pays([[4, -4]], [1]), [4, -4])
        self.assertEqual(summed_pays([[4, -4]], [3]), [12, -12])
        self.assertEqual(summed_pays([[BIG]], [BIG]), [BIG ** 2])

    def test_word_by_word(self):
        source = Random(83)
        for size in range(1, 9):
            for count in range(1, 7):
                for numbers in ((0, 1), (0, 1, 9), (0, BIG)):
                    lists = [[source.randint(-20, 20) for _ in range(size)] for _ in range(count)]
                    shares = drawn_shares(source, count, numbers)
                    told = summed_pays(lists, shares)
                    self.assertIs(type(told), list)
                    self.assertEqual(told, plain_pays_sum(lists, shares))

    def test_honest_for_each_is_honest_for_the_sum(self):
        for grids, shares in ringless_groups(84):
            total = summed_grids(grids, shares)
            for payments in (greatest, least):
                told = summed_pays([payments(grid)[0] for grid in grids], shares)
                self.assertIsNone(first_gain(total, told))

    def test_within_each_is_within_the_sum(self):
        seen = 0
        for grids, shares in ringless_groups(85):
            rooms = [room(grid) for grid in grids]
            if all(told[0] == "room" for told in rooms):
                seen += 1
                total = summed_grids(grids, shares)
                for place in (1, 2):
                    self.assertIs(within(total, summed_pays([told[place] for told in rooms], shares)), True)
        self.assertGreater(seen, 100)

    def test_all_honest_payments_of_small_grids(self):
        grids = [grid for grid in all_grids(2, (0, 1)) if ring(grid) is None]
        for one, other in product(grids, repeat=2):
            for shares in ([1, 1], [2, 1], [0, 3]):
                total = summed_grids([one, other], shares)
                for pays in product(honest_lists(one, range(3)), honest_lists(other, range(3))):
                    self.assertIsNone(first_gain(total, summed_pays(list(pays), shares)))


class TestNoShare(unittest.TestCase):
    def refused(self, shares, count=2):
        check_refused(self, "NoShare", summed_grids, [ONE, TWO, ONE, TWO][:count], shares)
        check_refused(self, "NoShare", summed_pays, [[1, 2], [3, 4], [0, 0], [5, 5]][:count], shares)

    def test_of_anything(self):
        for thing in THINGS + [self_holder(), (1, 1), "11", {1: 1, 2: 2}, {0: 1, 1: 1}, {1, 2}, frozenset((1, 2)),
                               range(1, 3), iter([1, 1]), [[1, 1]], [(1, 1)], b"ab", SHARES, {(): 1}]:
            for count in (1, 2, 3):
                self.refused(thing, count)

    def test_none_at_all(self):
        for shares in ([], [0], [1], [1, 1], None, (), {}):
            check_refused(self, "NoShare", summed_grids, [], shares)
            check_refused(self, "NoShare", summed_pays, [], shares)

    def test_too_few_or_too_many(self):
        for count in range(1, 5):
            for other in range(7):
                if other != count:
                    self.refused([1] * other, count)
        self.refused([1] * 300)

    def test_all_nothing(self):
        for count in range(1, 5):
            self.refused([0] * count, count)

    def test_what_is_no_whole_number_from_nothing_on(self):
        for wrong in NO_SHARE:
            for shares in ([wrong, 1], [1, wrong], [wrong, wrong], [wrong, 0], [0, wrong]):
                self.refused(shares)
            self.refused([wrong], 1)
            self.refused([1, wrong, 1], 3)

    def test_shares_that_sum_to_more_than_nothing_with_one_below(self):
        self.refused([5, -1])
        self.refused([-1, BIG])
        self.refused([1, -1])


class TestMeanGrid(unittest.TestCase):
    def plain(self, house, table, k, shares):
        rows = plain_others(house, k)
        return plain_grid_sum([plain_grid(house, table, k, others) for others in rows], [shares[row] for row in rows])

    def drawn(self, source, house, k, numbers):
        rows = plain_others(house, k)
        shares = list(zip(rows, drawn_shares(source, len(rows), numbers)))
        # The order of the keys is free.
        source.shuffle(shares)
        return dict(shares)

    def test_told_by_name(self):
        self.assertEqual(mean_grid(HOUSE, TABLE, 0, SHARES), [[15, 5], [-3, 3]])
        self.assertEqual(mean_grid(HOUSE, TABLE, 0, {("yes",): 1, ("no",): 0, ("so",): 0}), [[5, 0], [-1, 2]])
        self.assertEqual(mean_grid(HOUSE, TABLE, 0, {("so",): 1, ("yes",): 0, ("no",): 0}), [[5, 5], [-1, -1]])
        self.assertEqual(mean_grid(HOUSE, TABLE, 1, {("hi",): 1, ("lo",): 10}),
                         [[33, 33, 33], [10, 11, 0], [-63, -77, 77]])

    def test_one_hand(self):
        house = (("x", "y"), (("a", ("u", "v"), ((1, 2), (3, 4))),))
        table = {("u",): "x", ("v",): "y"}
        self.assertEqual(mean_grid(house, table, 0, {(): 1}), [[1, 2], [3, 4]])
        self.assertEqual(mean_grid(house, table, 0, {(): BIG}), [[BIG, 2 * BIG], [3 * BIG, 4 * BIG]])

    def test_each_hand_of_one_to_four(self):
        source = Random(86)
        seen = set()
        for house, table in tables_tried():
            seen.add(len(house[1]))
            for k in range(len(house[1])):
                for numbers in ((0, 1), (0, 1, 5), (BIG, 0)):
                    shares = self.drawn(source, house, k, numbers)
                    told = mean_grid(house, table, k, shares)
                    self.assertIs(type(told), list)
                    self.assertEqual(told, self.plain(house, table, k, shares))
        self.assertEqual(seen, {1, 2, 3, 4})

    def test_one_row_of_the_others_alone(self):
        for house, table in tables_tried():
            for k, others in columns_of(house):
                shares = {row: int(row == others) for row in plain_others(house, k)}
                self.assertEqual(mean_grid(house, table, k, shares), plain_grid(house, table, k, others))

    def test_the_largest_houses(self):
        source = Random(87)
        for sizes in ([8, 8, 4], [4, 4, 4, 4], [1, 8, 8, 4]):
            house = drawn_house(source, 8, sizes, -BIG, BIG)
            table = drawn_table(source, house)
            for k in range(len(sizes)):
                shares = {row: source.randint(0, BIG) for row in plain_others(house, k)}
                self.assertEqual(mean_grid(house, table, k, shares), self.plain(house, table, k, shares))

    def test_what_holds_for_each_row_of_the_others_holds_in_the_mean(self):
        source = Random(88)
        payable = 0
        for house, table in tables_tried():
            told = verdict(house, table)
            if told[0] == "pays":
                payable += 1
                for k in range(len(house[1])):
                    shares = self.drawn(source, house, k, (0, 1, 4))
                    grid = mean_grid(house, table, k, shares)
                    lists = [pays for j, others, pays, ways in told[1] if j == k]
                    listed = [shares[others] for j, others, pays, ways in told[1] if j == k]
                    pays = summed_pays(lists, listed)
                    self.assertIsNone(fewest_round_below_zero(grid))
                    self.assertIsNone(first_gain(grid, pays))
                    self.assertEqual(beyond(grid, pays), [])
        self.assertGreater(payable, 60)


class TestNoShareOfAHand(unittest.TestCase):
    def refused(self, shares):
        check_refused(self, "NoShare", mean_grid, HOUSE, TABLE, 0, shares)

    def test_of_anything(self):
        for thing in THINGS + [self_holder(), list(SHARES), list(SHARES.items()), tuple(SHARES.items()), SHARES.items(),
                               SHARES.keys(), set(SHARES), [1, 1, 1], (1, 1, 1), HOUSE, TABLE, {(): 1}, {None: 1}]:
            self.refused(thing)
            check_refused(self, "NoShare", mean_grid, HOUSE, TABLE, 1, thing)

    def test_a_row_of_the_others_too_few(self):
        for others in SHARES:
            shares = dict(SHARES)
            shares.pop(others)
            self.refused(shares)
        self.refused({})

    def test_another_key(self):
        for key in ((), ("hi",), ("yes", "no"), ("hi", "yes"), "yes", "", None, 0, True, ("YES",), (None,), frozenset(),
                    b"yes", 2.5):
            shares = dict(SHARES)
            shares[key] = 1
            self.refused(shares)
            for others in SHARES:
                instead = dict(shares)
                instead.pop(others)
                self.refused(instead)

    def test_the_rows_of_another_hand(self):
        self.refused({("hi",): 1, ("lo",): 1})
        check_refused(self, "NoShare", mean_grid, HOUSE, TABLE, 1, {("yes",): 1, ("no",): 1, ("so",): 1})

    def test_all_nothing(self):
        self.refused({others: 0 for others in SHARES})
        house, table = house_of_grid([[1, 2], [3, 4]])
        check_refused(self, "NoShare", mean_grid, house, table, 0, {(): 0})
        check_refused(self, "NoShare", mean_grid, house, table, 0, {})

    def test_what_is_no_whole_number_from_nothing_on(self):
        for wrong in NO_SHARE:
            for others in SHARES:
                shares = {row: 1 for row in SHARES}
                shares[others] = wrong
                self.refused(shares)
            self.refused({row: wrong for row in SHARES})

    def test_shares_of_more_figures_are_shares(self):
        shares = {("yes",): 10 ** 61, ("no",): 0, ("so",): 0}
        self.assertEqual(mean_grid(HOUSE, TABLE, 0, shares), [[5 * 10 ** 61, 0], [-10 ** 61, 2 * 10 ** 61]])


class TestSumsOfMoreFigures(unittest.TestCase):
    """What is told of grids is told of sums, too, whose numbers have more than sixty figures."""

    def sums(self):
        source = Random(89)
        for size in (1, 2, 3, 4, 5):
            for slack in (0, 1, 4):
                grids = list(ringless_grids(size, 6, slack))
                for count in (1, 2, 3):
                    shares = [source.randint(10 ** 59, BIG) for _ in range(count)]
                    yield summed_grids(source.sample(grids, count), [BIG * share for share in shares])
            for grid in drawn_grids(size, 12, -6, 6):
                yield summed_grids([grid, [[BIG * worth for worth in row] for row in grid]], [1, BIG])

    def check_told(self, grid):
        pays, ways = greatest(grid)
        self.assertEqual(pays, payments_within_by_roads(grid))
        for t, way in enumerate(ways):
            self.assertEqual((way[-1], grid[way[0]][way[0]] + along(grid, way)), (t, pays[t]))
        low, backs = least(grid)
        self.assertEqual(low, [max(-along(grid, way) for way in roads(len(grid)) if way[0] == t)
                               for t in range(len(grid))])
        for t, way in enumerate(backs):
            self.assertEqual((way[0], -along(grid, way)), (t, low[t]))
        for told in (pays, low):
            self.assertIsNone(first_gain(grid, told))
        self.assertEqual(beyond(grid, pays), [])
        self.check_room(grid, low, pays)
        self.check_apart(grid)

    def check_room(self, grid, low, high):
        told = room(grid)
        if min(high) < 0:
            self.assertEqual(told[0], "short")
            self.assertLess(grid[told[1][0]][told[1][0]] + along(grid, told[1]), 0)
            self.assertIs(within(grid, high), False)
        else:
            self.assertEqual(told, ("room", low, high))
            self.assertIs(within(grid, low), True)
            self.assertIs(within(grid, high), True)
        self.assertIs(within(grid, [pay + 1 for pay in high]), False)

    def check_apart(self, grid):
        size = range(len(grid))
        for s, t in product(size, repeat=2):
            most, way, pays = apart(grid, s, t)
            self.assertEqual(most, min(along(grid, one) for one in roads(len(grid)) if (one[0], one[-1]) == (s, t)))
            self.assertEqual((way[0], way[-1], along(grid, way)), (s, t, most))
            self.assertEqual(pays[t] - pays[s], most)
            self.assertIsNone(first_gain(grid, pays))

    def check_refusals(self, grid, fewest):
        found = ring(grid)
        self.assertEqual((len(found), len(set(found))), (fewest, fewest))
        self.assertLess(round_sum(grid, found), 0)
        told = room(grid)
        self.assertEqual((told[0], len(told[1])), ("ring", fewest))
        check_refused(self, "NoPays", greatest, grid)
        check_refused(self, "NoPays", least, grid)
        check_refused(self, "NoPays", apart, grid, 0, len(grid) - 1)
        self.assertIsNotNone(first_gain(grid, payments_by_roads(grid)))
        self.assertIs(within(grid, [0] * len(grid)), False)

    def test_of_sums(self):
        seen = {True: 0, False: 0}
        for grid in self.sums():
            fewest = fewest_round_below_zero(grid)
            seen[fewest is None] += not is_grid(grid)
            if fewest is None:
                self.assertIsNone(ring(grid))
                self.check_told(grid)
            else:
                self.check_refusals(grid, fewest)
        self.assertGreater(min(seen.values()), 20)

    def test_a_ring_by_one_alone(self):
        turns = {(0, 1): 0, (1, 2): 0, (2, 3): 0, (3, 0): -1}
        even = grid_of_turns(4, {**turns, (3, 0): 0})
        huge = summed_grids([even, grid_of_turns(4, turns)], [10 ** 120, 1])
        self.assertEqual(sorted(ring(huge)), [0, 1, 2, 3])
        self.assertEqual(round_sum(huge, ring(huge)), -1)
        self.assertIsNone(ring(summed_grids([even, even], [10 ** 120, 1])))

    def test_first_gain_by_one_alone(self):
        grid = summed_grids([[[0, 1], [2, 0]]], [BIG ** 3])
        pays = summed_pays([[0, 1]], [BIG ** 3])
        self.assertEqual(first_gain(grid, pays), (1, 0, 3 * BIG ** 3))
        self.assertEqual(first_gain([[0, -BIG ** 3], [BIG ** 3, 0]], [BIG ** 3, 1]), (1, 0, 1))
        self.assertIsNone(first_gain([[0, -BIG ** 3], [BIG ** 3, 0]], [BIG ** 3, 0]))
        self.assertEqual(beyond([[BIG ** 3, 0], [0, BIG ** 3]], [BIG ** 3, BIG ** 3 + 1]), [1])

    def test_of_mean_grids(self):
        source = Random(90)
        for house in drawn_houses(90, 25, -BIG, BIG):
            table = drawn_table(source, house)
            for k in range(len(house[1])):
                shares = {row: source.randint(1, BIG) for row in plain_others(house, k)}
                grid = mean_grid(house, table, k, shares)
                fewest = fewest_round_below_zero(grid)
                if fewest is None:
                    self.check_told(grid)
                else:
                    self.check_refusals(grid, fewest)


class TestAskersOwn(unittest.TestCase):
    def test_nothing_handed_in_is_changed(self):
        grids, lists, shares, hand_shares, table = [ONE, TWO], [[1, 2], [3, 4]], [1, 2], dict(SHARES), dict(TABLE)
        before = deepcopy((grids, lists, shares, list(hand_shares.items()), table))
        summed_grids(grids, shares)
        summed_pays(lists, shares)
        mean_grid(HOUSE, table, 0, hand_shares)
        for wrong in ([1, None], [0, 0], [1]):
            handed = list(wrong)
            check_refused(self, "NoShare", summed_grids, grids, handed)
            check_refused(self, "NoShare", summed_pays, lists, handed)
            self.assertEqual(handed, wrong)
        wrong = {("yes",): None}
        check_refused(self, "NoShare", mean_grid, HOUSE, table, 0, wrong)
        self.assertEqual(wrong, {("yes",): None})
        self.assertEqual((grids, lists, shares, list(hand_shares.items()), table), before)

    def test_told_sums_are_the_askers_own(self):
        grids, lists = [deepcopy(ONE)], [[1, 2]]
        for told in (summed_grids(grids, [1]), summed_grids(grids + [TWO], [1, 0])):
            told[0][0] = 99
            told[1].clear()
            told.append([7])
        told = summed_pays(lists, [1])
        told[0] = 99
        self.assertEqual((grids, lists), ([ONE], [[1, 2]]))
        self.assertEqual(summed_grids(grids, [1]), ONE)
        self.assertEqual(summed_pays(lists, [1]), [1, 2])
        told = mean_grid(HOUSE, TABLE, 0, SHARES)
        told[0].clear()
        self.assertEqual(mean_grid(HOUSE, TABLE, 0, SHARES), [[15, 5], [-3, 3]])

    def test_no_two_rows_told_are_one(self):
        row = [1, 1]
        told = summed_grids([[row, row], [row, row]], [1, 1])
        self.assertEqual(told, [[2, 2], [2, 2]])
        self.assertIsNot(told[0], told[1])

    def test_what_is_changed_behind_the_call_changes_nothing_told(self):
        grids, shares, lists = [deepcopy(ONE), deepcopy(TWO)], [1, 1], [[1, 2], [3, 4]]
        told = (summed_grids(grids, shares), summed_pays(lists, shares))
        grids[0][0][0] = 50
        grids.clear()
        lists[1].clear()
        shares.clear()
        self.assertEqual(told, ([[5, -2], [12, 11]], [4, 6]))


if __name__ == "__main__":
    unittest.main()
