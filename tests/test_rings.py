import unittest
from copy import deepcopy

from samples import (BIG, all_grids, drawn_grids, fewest_round_below_zero, grid_of_turns, honest_lists,
                     near_honest_grids, payments_by_roads)
from trueword.grids import first_gain, is_grid, round_sum
from trueword.rings import ring


def round_turns(words, last):
    """Turns of 0 from each word to the next, and last from the last one to the first."""
    turns = {pair: 0 for pair in zip(words, words[1:])}
    turns[(words[-1], words[0])] = last
    return turns


class TestRing(unittest.TestCase):
    def check(self, grid):
        """The told ring, held against every list of words, none twice."""
        told = ring(grid)
        fewest = fewest_round_below_zero(grid)
        if fewest is None:
            self.assertIsNone(told, grid)
        else:
            self.check_is_ring(grid, told)
            self.assertEqual(len(told), fewest, grid)
        return told

    def check_is_ring(self, grid, told):
        self.assertIsInstance(told, list)
        self.assertGreaterEqual(len(told), 2)
        self.assertEqual(len(set(told)), len(told), (grid, told))
        for word in told:
            self.assertIs(type(word), int)
            self.assertIn(word, range(len(grid)))
        self.assertLess(round_sum(grid, told), 0, (grid, told))

    def test_one_word_is_no_ring(self):
        for worth in (-BIG, -1, 0, 1, BIG):
            self.assertIsNone(ring([[worth]]))

    def test_none_where_payments_are_honest(self):
        grid = [[5, 1, 0], [2, 4, 3], [-1, 6, 7]]
        self.assertIsNone(first_gain(grid, [0, 0, 0]))
        self.assertIsNone(ring(grid))

    def test_none_where_honest_payments_are_no_zeros(self):
        grid = [[0, 5], [-8, 0]]
        self.assertIsNotNone(first_gain(grid, [0, 0]))
        self.assertIsNone(first_gain(grid, [0, 6]))
        self.assertIsNone(ring(grid))

    def test_a_ring_of_two_words(self):
        self.assertEqual(sorted(ring([[0, 1], [0, 0]])), [0, 1])
        self.assertEqual(sorted(ring([[0, 0, 0], [-9, 0, 4], [-9, -3, 0]])), [1, 2])

    def test_just_nothing_round_is_no_ring(self):
        self.assertIsNone(ring([[0, 0], [0, 0]]))
        self.assertIsNone(ring([[0, 3], [-3, 0]]))
        for size in range(2, 9):
            words = list(range(size))
            self.assertIsNone(ring(grid_of_turns(size, round_turns(words, 0))))
            self.assertIsNone(ring([[4] * size for _ in range(size)]))

    def test_rings_of_each_number_of_words(self):
        for size in range(2, 9):
            for words in (list(range(size)), list(reversed(range(size))), [*range(1, size, 2), *range(0, size, 2)]):
                grid = grid_of_turns(size, round_turns(words, -1))
                self.assertTrue(is_grid(grid))
                told = self.check(grid)
                at = words.index(told[0])
                self.assertEqual(told, words[at:] + words[:at])

    def test_a_ring_among_words_beside_it(self):
        for words in ([6, 2], [7, 3, 5], [1, 4, 0, 6], [2, 7, 4, 1, 5]):
            told = self.check(grid_of_turns(8, round_turns(words, -1)))
            at = words.index(told[0])
            self.assertEqual(told, words[at:] + words[:at])

    def test_fewer_words_stand_ahead_of_a_lower_sum(self):
        turns = round_turns([0, 1, 2, 3, 4], -40)
        turns.update(round_turns([5, 6, 7], -1))
        self.assertEqual(sorted(ring(grid_of_turns(8, turns))), [5, 6, 7])
        turns = round_turns([7, 6, 5, 4], -40)
        turns.update(round_turns([0, 3], -1))
        self.assertEqual(sorted(ring(grid_of_turns(8, turns))), [0, 3])

    def test_rings_that_share_words(self):
        turns = round_turns([0, 1, 2, 3, 4, 5], -30)
        turns.update({(2, 6): 0, (6, 1): -1})
        told = self.check(grid_of_turns(8, turns))
        self.assertEqual(sorted(told), [1, 2, 6])

    def test_all_small_grids(self):
        for grid in all_grids(1, range(-2, 3)):
            self.assertIsNone(ring(grid))
        told = [self.check(grid) for grid in all_grids(2, range(-2, 3))]
        self.assertIn(None, told)
        told = [len(self.check(grid) or []) for grid in all_grids(3, range(-1, 2))]
        self.assertEqual(sorted(set(told)), [0, 2, 3])

    def test_drawn_grids(self):
        for size in range(3, 7):
            for grid in drawn_grids(size, 40, -5, 5):
                self.check(grid)

    def test_grids_near_honest_ones(self):
        lengths = {}
        for size, count, slack in ((4, 300, 2), (5, 200, 3), (6, 60, 4)):
            for grid in near_honest_grids(size, count, slack):
                told = ring(grid)
                self.check(grid)
                lengths[len(told or [])] = True
        self.assertLessEqual({0, 2, 3, 4}, set(lengths))

    def test_either_a_ring_or_honest_payments(self):
        for size in range(1, 6):
            grids = list(drawn_grids(size, 30, -4, 4)) + list(near_honest_grids(size, 60, 4))
            for grid in grids:
                honest = first_gain(grid, payments_by_roads(grid)) is None
                self.assertIs(ring(grid) is None, honest, grid)

    def test_no_payments_are_honest_where_there_is_a_ring(self):
        for grid in all_grids(2, range(-1, 2)):
            self.assertIs(ring(grid) is None, bool(honest_lists(grid, range(-2, 3))), grid)
        for grid in drawn_grids(3, 60, -1, 1):
            self.assertIs(ring(grid) is None, bool(honest_lists(grid, range(-4, 5))), grid)

    def test_numbers_of_sixty_figures(self):
        self.assertIsNone(ring([[BIG, -BIG], [-BIG, BIG]]))
        self.assertEqual(sorted(ring([[-BIG, BIG], [BIG, -BIG]])), [0, 1])
        self.assertIsNone(ring([[BIG, -BIG], [BIG, -BIG]]))
        self.assertEqual(sorted(ring([[BIG, -BIG], [BIG, -BIG - 1]])), [0, 1])

    def test_numbers_of_more_figures(self):
        huge = 10 ** 200
        self.assertIsNone(ring([[huge, 0], [2 * huge, huge]]))
        self.assertEqual(sorted(ring([[huge, 0], [2 * huge + 1, huge]])), [0, 1])
        for size in range(2, 9):
            words = list(range(size))
            turns = {pair: -huge for pair in zip(words, words[1:])}
            turns[(words[-1], words[0])] = (size - 1) * huge
            other = size * huge
            self.assertIsNone(ring(grid_of_turns(size, turns, other)))
            turns[(words[-1], words[0])] -= 1
            self.assertEqual(sorted(ring(grid_of_turns(size, turns, other))), words)

    def test_grids_somewhat_beyond_eight_words(self):
        for size in (9, 12):
            words = list(range(size))
            self.assertIsNone(ring(grid_of_turns(size, round_turns(words, 0))))
            told = ring(grid_of_turns(size, round_turns(words, -1)))
            self.assertEqual(sorted(told), words)


class TestAskersOwn(unittest.TestCase):
    GRIDS = ([[0, 1], [0, 0]], [[5, 1, 0], [2, 4, 3], [-1, 6, 7]], grid_of_turns(8, round_turns(list(range(8)), -1)))

    def test_nothing_handed_in_is_changed(self):
        for grid in self.GRIDS:
            handed = deepcopy(grid)
            ring(handed)
            self.assertEqual(handed, grid)

    def test_two_told_rings_are_not_one(self):
        for grid in (self.GRIDS[0], self.GRIDS[2]):
            one = ring(grid)
            other = ring(grid)
            before = list(other)
            self.assertIsNot(one, other)
            one.clear()
            self.assertEqual(other, before)
            self.assertEqual(ring(grid), before)

    def test_what_is_changed_behind_the_call_changes_nothing_told(self):
        grid = [[0, 1], [0, 0]]
        told = ring(grid)
        before = list(told)
        grid[0][1] = -9
        self.assertEqual(told, before)
        self.assertIsNone(ring(grid))


if __name__ == "__main__":
    unittest.main()
