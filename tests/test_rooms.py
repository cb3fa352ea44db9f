import unittest
from copy import deepcopy
from itertools import product

from samples import (BIG, all_grids, check_refused, drawn_grids, fewest_round_below_zero, grid_of_turns, honest_lists,
                     mixed_grids, ringless_grids, roads, small_grids)
from trueword.grids import along, beyond, first_gain, round_sum
from trueword.pays import greatest, least
from trueword.rings import ring
from trueword.rooms import apart, room, within

GRID = [[5, 1, 0], [2, 4, 3], [-1, 6, 7]]
SHORT = [[0, 5], [-8, 0]]
RING = [[0, 1], [0, 0]]
TIGHT = [[0, 3, 1], [-3, 0, -2], [-1, 2, 0]]
HUGE = 10 ** 200


class TestWithin(unittest.TestCase):
    def test_within(self):
        for pays in ([0, 0, 0], [1, 1, 1], [0, 2, 3], [4, 0, 0], [5, 4, 5]):
            self.assertIs(within(GRID, pays), True, pays)

    def test_not_honest_alone(self):
        for pays in ([0, 3, 3], [0, 2, 4], [5, 0, 0]):
            self.assertIsNotNone(first_gain(GRID, pays))
            self.assertEqual(beyond(GRID, pays), [])
            self.assertIs(within(GRID, pays), False, pays)

    def test_beyond_the_worth_alone(self):
        for pays in ([6, 4, 4], [5, 5, 5]):
            self.assertIsNone(first_gain(GRID, pays))
            self.assertIs(within(GRID, pays), False, pays)

    def test_below_nothing_alone(self):
        for pays in ([-1, 0, 0], [0, -1, 0], [0, 0, -1], [-7, -7, -7]):
            self.assertIsNone(first_gain(GRID, pays))
            self.assertEqual(beyond(GRID, pays), [])
            self.assertIs(within(GRID, pays), False, pays)

    def test_just_at_the_bounds_of_one_word(self):
        for worth in (0, 1, 7, BIG):
            self.assertIs(within([[worth]], [worth]), True)
            self.assertIs(within([[worth]], [0]), True)
            self.assertIs(within([[worth]], [worth + 1]), False)
            self.assertIs(within([[worth]], [-1]), False)
        self.assertIs(within([[-1]], [-1]), False)
        self.assertIs(within([[-1]], [0]), False)

    def test_just_honest(self):
        self.assertIs(within(GRID, [0, 2, 3]), True)
        self.assertIs(within([[9, 5], [3, 9]], [4, 0]), True)
        self.assertIs(within([[9, 5], [3, 9]], [5, 0]), False)
        self.assertIs(within([[9, 5], [3, 9]], [0, 6]), True)
        self.assertIs(within([[9, 5], [3, 9]], [0, 7]), False)

    def test_none_where_there_is_a_ring(self):
        for pays in product(range(-1, 3), repeat=2):
            self.assertIs(within(RING, list(pays)), False)

    def test_as_the_words_of_the_document_tell(self):
        told = {True: 0, False: 0}
        for size in (1, 2, 3):
            for grid in drawn_grids(size, 30, -2, 4):
                for pays in product(range(-1, 4), repeat=size):
                    pays = list(pays)
                    plain = (all(pays[t] - pays[s] <= grid[t][t] - grid[t][s] for s in range(size) for t in range(size))
                             and all(0 <= pays[t] <= grid[t][t] for t in range(size)))
                    self.assertIs(within(grid, pays), plain, (grid, pays))
                    told[plain] += 1
        self.assertGreater(min(told.values()), 50)

    def test_numbers_of_many_figures(self):
        grid = [[HUGE, 1], [0, HUGE]]
        self.assertIs(within(grid, [0, HUGE]), True)
        self.assertIs(within(grid, [1, HUGE + 1]), False)
        self.assertIs(within(grid, [HUGE, 0]), False)
        self.assertIs(within(grid, [HUGE, 1]), True)
        self.assertIs(within(grid, [-HUGE, -HUGE]), False)


class TestRoom(unittest.TestCase):
    def check(self, grid):
        told = room(grid)
        self.assertIsInstance(told, tuple)
        if ring(grid) is not None:
            self.check_ring(grid, told)
        elif min(greatest(grid)[0]) < 0:
            self.check_short(grid, told)
        else:
            self.check_room(grid, told)
        return told[0]

    def check_words(self, grid, words):
        self.assertIsInstance(words, list)
        self.assertGreaterEqual(len(words), 1)
        self.assertEqual(len(set(words)), len(words), (grid, words))
        self.assertLessEqual(set(words), set(range(len(grid))))

    def check_ring(self, grid, told):
        self.assertEqual((told[0], len(told)), ("ring", 2), grid)
        self.check_words(grid, told[1])
        self.assertLess(round_sum(grid, told[1]), 0, grid)
        self.assertEqual(len(told[1]), len(ring(grid)), grid)

    def check_short(self, grid, told):
        self.assertEqual((told[0], len(told)), ("short", 2), grid)
        road = told[1]
        self.check_words(grid, road)
        self.assertLess(grid[road[0]][road[0]] + along(grid, road), 0, (grid, road))

    def check_room(self, grid, told):
        self.assertEqual((told[0], len(told)), ("room", 3), grid)
        for pays in told[1:]:
            self.assertIsInstance(pays, list)
            self.assertIs(within(grid, pays), True, (grid, pays))
        self.assertIsNot(told[1], told[2])
        self.assertEqual(told[1], least(grid)[0])
        self.assertEqual(told[2], greatest(grid)[0])

    def test_told_by_name(self):
        self.assertEqual(room(GRID), ("room", [0, 0, 0], [5, 4, 5]))
        self.assertEqual(room(SHORT), ("short", [1, 0]))
        self.assertEqual(room(RING)[0], "ring")
        self.assertEqual(sorted(room(RING)[1]), [0, 1])

    def test_one_word(self):
        self.assertEqual(room([[0]]), ("room", [0], [0]))
        self.assertEqual(room([[BIG]]), ("room", [0], [BIG]))
        self.assertEqual(room([[-1]]), ("short", [0]))
        self.assertEqual(room([[-BIG]]), ("short", [0]))

    def test_just_room_and_one_short(self):
        self.assertEqual(room([[4, 8], [0, 4]]), ("room", [0, 4], [0, 4]))
        self.assertEqual(room([[3, 7], [0, 4]])[0], "room")
        self.assertEqual(room([[3, 8], [-1, 4]]), ("short", [1, 0]))

    def test_short_just_by_a_later_word(self):
        grid = grid_of_turns(4, {(0, 1): 0, (1, 2): 0, (2, 3): -1})
        self.assertEqual(room(grid), ("short", [0, 1, 2, 3]))

    def test_a_ring_of_the_fewest_words(self):
        for size in range(3, 8):
            turns = {(s, s + 1): 0 for s in range(size - 1)}
            turns[(size - 1, 0)] = -1
            grid = grid_of_turns(size, turns)
            self.assertEqual(self.check(grid), "ring")
            self.assertEqual(len(room(grid)[1]), fewest_round_below_zero(grid))

    def test_a_ring_stands_ahead_of_a_short_road(self):
        self.assertEqual(room([[-5, 1], [0, -5]])[0], "ring")
        self.assertEqual(room([[-5, -5], [-5, -5]])[0], "short")

    def test_grids_of_one_to_eight_words(self):
        kinds = {}
        for grid in mixed_grids():
            kinds[(len(grid), self.check(grid))] = True
        for size in range(2, 9):
            for kind in ("ring", "short", "room"):
                self.assertIn((size, kind), kinds)

    def test_against_all_payments(self):
        grids = list(all_grids(2, range(-1, 2))) + list(drawn_grids(3, 60, 0, 3)) + list(ringless_grids(2, 40, 2))
        kinds = {}
        for grid in grids:
            told = room(grid)
            top = max([0] + [grid[t][t] for t in range(len(grid))])
            honest = honest_lists(grid, range(0, top + 1))
            inside = [pays for pays in honest if within(grid, pays)]
            kinds[told[0]] = kinds.get(told[0], 0) + len(inside)
            if told[0] != "room":
                self.assertEqual(inside, [], grid)
            else:
                between = [pays for pays in honest
                           if all(low <= pay <= high for low, pay, high in zip(told[1], pays, told[2]))]
                self.assertEqual(between, inside, grid)
        self.assertEqual(set(kinds), {"ring", "short", "room"})
        self.assertGreater(kinds["room"], 200)

    def test_numbers_of_many_figures(self):
        for number in (BIG, HUGE):
            self.assertEqual(room([[number, -number], [-number, number]]), ("room", [0, 0], [number, number]))
            self.assertEqual(room([[number, -number], [number, -number]]), ("short", [1]))
            self.assertEqual(room([[number, 2 * number], [-number, number]]), ("room", [0, number], [0, number]))
            self.assertEqual(room([[number - 1, 2 * number], [-number, number]]), ("short", [1, 0]))
            self.assertEqual(sorted(room([[-number, number], [number, -number]])[1]), [0, 1])


class TestApart(unittest.TestCase):
    def check(self, grid, s, t):
        told = apart(grid, s, t)
        self.assertIsInstance(told, tuple)
        most, road, pays = told
        self.assertIs(type(most), int)
        self.assertIsInstance(road, list)
        self.assertEqual((road[0], road[-1]), (s, t))
        self.assertEqual(len(set(road)), len(road), (grid, road))
        self.assertLessEqual(set(road), set(range(len(grid))))
        self.assertEqual(along(grid, road), most, (grid, road))
        self.assertIsInstance(pays, list)
        self.assertEqual(len(pays), len(grid))
        self.assertIsNone(first_gain(grid, pays), (grid, pays))
        self.assertEqual(pays[t] - pays[s], most, (grid, pays))
        return most

    def test_told_by_name(self):
        self.assertEqual(apart(GRID, 0, 2)[:2], (3, [0, 1, 2]))
        self.assertEqual(apart(GRID, 2, 0)[:2], (5, [2, 0]))
        self.assertEqual(apart(SHORT, 1, 0)[:2], (-5, [1, 0]))
        self.assertEqual(apart(SHORT, 0, 1)[:2], (8, [0, 1]))

    def test_a_word_and_itself(self):
        for grid in (GRID, SHORT, TIGHT, [[3]], [[-BIG]], [[4] * 8] * 8):
            for word in range(len(grid)):
                self.assertEqual(self.check(grid, word, word), 0)
                self.assertEqual(apart(grid, word, word)[1], [word])

    def test_each_two_words_of_grids_of_one_to_eight(self):
        sizes = {}
        for grid in list(mixed_grids())[::3]:
            pairs = list(product(range(len(grid)), repeat=2))
            if ring(grid) is not None:
                for s, t in pairs:
                    check_refused(self, "NoPays", apart, grid, s, t)
            else:
                sizes[len(grid)] = True
                most = {(s, t): self.check(grid, s, t) for s, t in pairs}
                for s, t in pairs:
                    self.assertGreaterEqual(most[(s, t)], -most[(t, s)])
        self.assertEqual(len(sizes), 8)

    def test_against_all_roads(self):
        for grid in small_grids():
            if ring(grid) is not None:
                continue
            sums = {}
            for road in roads(len(grid)):
                sums.setdefault((road[0], road[-1]), []).append(along(grid, road))
            for s, t in sums:
                self.assertEqual(self.check(grid, s, t), min(sums[(s, t)]), (grid, s, t))

    def test_against_all_honest_payments(self):
        for grid in all_grids(2, range(-1, 2)):
            if ring(grid) is None:
                honest = honest_lists(grid, range(-3, 4))
                for s, t in product(range(2), range(2)):
                    self.assertEqual(apart(grid, s, t)[0], max(pays[t] - pays[s] for pays in honest), grid)

    def test_just_nothing_round_is_no_ring(self):
        for s, t in product(range(3), range(3)):
            self.assertEqual(self.check(TIGHT, s, t), -self.check(TIGHT, t, s))

    def test_long_roads(self):
        for size in range(2, 9):
            grid = grid_of_turns(size, {(s, s + 1): -10 for s in range(size - 1)}, other=10 * size)
            for t in range(size):
                self.assertEqual(self.check(grid, 0, t), -10 * t)
                self.assertEqual(apart(grid, 0, t)[1], list(range(t + 1)))

    def test_numbers_of_many_figures(self):
        for number in (BIG, HUGE):
            grid = [[number, -number], [number, -number]]
            self.assertEqual(self.check(grid, 0, 1), -2 * number)
            self.assertEqual(self.check(grid, 1, 0), 2 * number)
            check_refused(self, "NoPays", apart, [[number, -number], [number, -number - 1]], 0, 1)

    def test_refused_for_a_word_and_itself_and_for_words_beside_the_ring(self):
        check_refused(self, "NoPays", apart, RING, 0, 0)
        check_refused(self, "NoPays", apart, [[0, 0, 0], [-9, 0, 4], [-9, -3, 0]], 0, 0)


class TestAskersOwn(unittest.TestCase):
    def test_nothing_handed_in_is_changed(self):
        for grid in (GRID, SHORT, TIGHT, RING):
            handed, pays = deepcopy(grid), [0] * len(grid)
            room(handed)
            within(handed, pays)
            try:
                apart(handed, 0, 1)
            except ValueError:
                self.assertIsNotNone(ring(grid))
            self.assertEqual(handed, grid)
            self.assertEqual(pays, [0] * len(grid))

    def test_told_lists_may_be_changed(self):
        for grid in (GRID, SHORT, RING, TIGHT, [[0]], [[5]]):
            before = deepcopy(room(grid))
            one, other = room(grid), room(grid)
            for told in one[1:]:
                told[0] = 99
                told.append(99)
            self.assertEqual(other, before)
            self.assertEqual(room(grid), before)

    def test_changing_the_low_ones_leaves_the_high_ones(self):
        told = room([[0]])
        told[1][0] = 99
        self.assertEqual(told, ("room", [99], [0]))

    def test_told_roads_and_payments_may_be_changed(self):
        for grid, s, t in ((GRID, 0, 2), (GRID, 1, 1), ([[0]], 0, 0), (TIGHT, 2, 0)):
            before = deepcopy(apart(grid, s, t))
            one, other = apart(grid, s, t), apart(grid, s, t)
            one[1].append(99)
            self.assertEqual(one[2], before[2])
            one[2].clear()
            self.assertEqual(other, before)
            self.assertEqual(apart(grid, s, t), before)

    def test_what_is_changed_behind_the_call_changes_nothing_told(self):
        grid = deepcopy(GRID)
        told = (room(grid), apart(grid, 0, 2))
        before = deepcopy(told)
        grid[0][0] = 77
        grid[2].clear()
        self.assertEqual(told, before)


if __name__ == "__main__":
    unittest.main()
