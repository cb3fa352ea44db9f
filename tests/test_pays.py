import unittest
from copy import deepcopy

from samples import (BIG, all_grids, check_refused, grid_of_turns, honest_lists, mixed_grids, payments_within_by_roads,
                     roads, small_grids)
from trueword.grids import along, beyond, first_gain, is_grid
from trueword.pays import greatest, least
from trueword.rings import ring

GRID = [[5, 1, 0], [2, 4, 3], [-1, 6, 7]]
TIGHT = [[0, 3, 1], [-3, 0, -2], [-1, 2, 0]]
HUGE = 10 ** 200


def huge_round(size, last):
    """Turns of -HUGE from each word to the next, and last from the last one to the first."""
    turns = {(s, s + 1): -HUGE for s in range(size - 1)}
    turns[(size - 1, 0)] = last
    return grid_of_turns(size, turns, size * HUGE)


class TestPayments(unittest.TestCase):
    def check_kinds(self, grid, told):
        self.assertIsInstance(told, tuple)
        self.assertEqual(len(told), 2)
        pays, ways = told
        self.assertIsInstance(pays, list)
        self.assertIsInstance(ways, list)
        self.assertEqual(len(pays), len(grid))
        self.assertEqual(len(ways), len(grid))
        for pay in pays:
            self.assertIs(type(pay), int)
        for road in ways:
            self.assertIsInstance(road, list)
            self.assertEqual(len(set(road)), len(road), (grid, road))
            self.assertLessEqual(set(road), set(range(len(grid))))
        self.assertEqual(len({id(one) for one in [pays, ways] + ways}), 2 + len(ways))

    def check_greatest(self, grid):
        """Honest, within the worth, and roads that come to it: so none can be greater."""
        told = greatest(grid)
        self.check_kinds(grid, told)
        pays, ways = told
        self.assertIsNone(first_gain(grid, pays), grid)
        self.assertEqual(beyond(grid, pays), [], grid)
        for t, road in enumerate(ways):
            self.assertEqual(road[-1], t)
            self.assertEqual(grid[road[0]][road[0]] + along(grid, road), pays[t], (grid, road))
        return pays

    def check_least(self, grid):
        """Honest, never below 0, and roads that come to it: so none can be less."""
        told = least(grid)
        self.check_kinds(grid, told)
        pays, ways = told
        self.assertIsNone(first_gain(grid, pays), grid)
        self.assertGreaterEqual(min(pays), 0, grid)
        for t, road in enumerate(ways):
            self.assertEqual(road[0], t)
            self.assertEqual(-along(grid, road), pays[t], (grid, road))
        return pays

    def check_either(self, grid):
        if ring(grid) is None:
            self.check_greatest(grid)
            self.check_least(grid)
            return True
        check_refused(self, "NoPays", greatest, grid)
        check_refused(self, "NoPays", least, grid)
        return False

    def test_one_word(self):
        for worth in (-BIG, -1, 0, 1, BIG):
            self.assertEqual(greatest([[worth]]), ([worth], [[0]]))
            self.assertEqual(least([[worth]]), ([0], [[0]]))

    def test_told_by_name(self):
        self.assertEqual(greatest(GRID), ([5, 4, 5], [[0], [1], [1, 2]]))
        self.assertEqual(least(GRID), ([0, 0, 0], [[0], [1], [2]]))
        grid = [[0, 5], [-8, 0]]
        self.assertEqual(greatest(grid), ([-5, 0], [[1, 0], [1]]))
        self.assertEqual(least(grid), ([0, 5], [[0], [1, 0]]))

    def test_long_roads(self):
        for size in range(2, 9):
            words = list(range(size))
            grid = grid_of_turns(size, {(s, s + 1): -10 for s in range(size - 1)}, other=10 * size)
            self.assertEqual(greatest(grid)[0], [-10 * t for t in words])
            self.assertEqual(greatest(grid)[1], [list(range(t + 1)) for t in words])
            self.assertEqual(least(grid)[0], [10 * (size - 1 - t) for t in words])
            self.assertEqual(least(grid)[1], [list(range(t, size)) for t in words])

    def test_grids_of_one_to_eight_words(self):
        honest = {}
        for grid in mixed_grids():
            self.assertTrue(is_grid(grid))
            honest[(len(grid), self.check_either(grid))] = True
        self.assertEqual(set(honest), {(size, kind) for size in range(1, 9) for kind in (True, False)} - {(1, False)})

    def test_all_grids_of_two_words(self):
        for grid in all_grids(2, range(-2, 3)):
            self.check_either(grid)

    def test_against_all_roads(self):
        tried = 0
        for grid in small_grids():
            if ring(grid) is not None:
                continue
            tried += 1
            words = range(len(grid))
            ways = list(roads(len(grid)))
            self.assertEqual(self.check_greatest(grid), payments_within_by_roads(grid), grid)
            beginning = [max(-along(grid, road) for road in ways if road[0] == t) for t in words]
            self.assertEqual(self.check_least(grid), beginning, grid)
        self.assertGreater(tried, 200)

    def test_against_all_honest_payments(self):
        for grid in all_grids(2, range(-1, 2)):
            honest = honest_lists(grid, range(-5, 6))
            if ring(grid) is None:
                high = [pays for pays in honest if not beyond(grid, pays)]
                self.assertEqual(greatest(grid)[0], [max(column) for column in zip(*high)])
                low = [pays for pays in honest if min(pays) >= 0]
                self.assertEqual(least(grid)[0], [min(column) for column in zip(*low)])

    def test_just_nothing_round_is_no_ring(self):
        self.assertIsNone(ring(TIGHT))
        self.assertEqual(self.check_greatest(TIGHT), [-3, 0, -2])
        self.assertEqual(self.check_least(TIGHT), [0, 3, 1])
        for size in range(2, 9):
            alike = [[4] * size for _ in range(size)]
            self.assertEqual(self.check_greatest(alike), [4] * size)
            self.assertEqual(self.check_least(alike), [0] * size)

    def test_refused_where_there_is_a_ring(self):
        for grid in ([[0, 1], [0, 0]], [[-BIG, BIG], [BIG, -BIG]], [[BIG, -BIG], [BIG, -BIG - 1]],
                     [[0, 0, 0], [-9, 0, 4], [-9, -3, 0]]):
            check_refused(self, "NoPays", greatest, grid)
            check_refused(self, "NoPays", least, grid)
        for size in range(2, 9):
            turns = {(s, s + 1): 0 for s in range(size - 1)}
            turns[(size - 1, 0)] = -1
            check_refused(self, "NoPays", greatest, grid_of_turns(size, turns))
            check_refused(self, "NoPays", least, grid_of_turns(size, turns))

    def test_numbers_of_sixty_figures(self):
        self.assertEqual(self.check_greatest([[BIG, -BIG], [-BIG, BIG]]), [BIG, BIG])
        self.assertEqual(self.check_least([[BIG, -BIG], [-BIG, BIG]]), [0, 0])
        self.assertEqual(self.check_greatest([[BIG, -BIG], [BIG, -BIG]]), [BIG, -BIG])
        self.assertEqual(self.check_least([[BIG, -BIG], [BIG, -BIG]]), [2 * BIG, 0])
        self.assertEqual(self.check_greatest([[-BIG, BIG], [-BIG, BIG]]), [-BIG, BIG])
        self.assertEqual(self.check_least([[-BIG, BIG], [-BIG, BIG]]), [0, 2 * BIG])

    def test_numbers_of_more_figures(self):
        for size in range(2, 9):
            grid = huge_round(size, (size - 1) * HUGE)
            self.assertEqual(self.check_greatest(grid), [-t * HUGE for t in range(size)])
            self.assertEqual(self.check_least(grid), [(size - 1 - t) * HUGE for t in range(size)])
            check_refused(self, "NoPays", greatest, huge_round(size, (size - 1) * HUGE - 1))
            check_refused(self, "NoPays", least, huge_round(size, (size - 1) * HUGE - 1))

    def test_grids_somewhat_beyond_eight_words(self):
        grid = grid_of_turns(10, {(s, s + 1): -1 for s in range(9)}, other=10)
        self.assertEqual(self.check_least(grid), list(reversed(range(10))))
        self.assertEqual(self.check_greatest(grid), [-t for t in range(10)])


class TestAskersOwn(unittest.TestCase):
    def test_nothing_handed_in_is_changed(self):
        for grid in (GRID, TIGHT, [[0, 1], [0, 0]]):
            for call in (greatest, least):
                handed = deepcopy(grid)
                try:
                    call(handed)
                except ValueError:
                    self.assertIsNotNone(ring(grid))
                self.assertEqual(handed, grid)

    def test_told_lists_may_be_changed(self):
        for call in (greatest, least):
            for grid in (GRID, TIGHT, [[3]]):
                before = deepcopy(call(grid))
                pays, ways = call(grid)
                other = call(grid)
                pays[0] = 99
                ways[0].append(99)
                ways.clear()
                self.assertEqual(other, before)
                self.assertEqual(call(grid), before)

    def test_what_is_changed_behind_the_call_changes_nothing_told(self):
        for call in (greatest, least):
            grid = deepcopy(TIGHT)
            told = call(grid)
            before = deepcopy(told)
            grid[0][0] = 50
            grid[1].clear()
            self.assertEqual(told, before)


if __name__ == "__main__":
    unittest.main()
