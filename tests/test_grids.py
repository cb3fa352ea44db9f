import unittest
from copy import deepcopy
from fractions import Fraction

from samples import BIG, Loud, all_grids, drawn_grids, honest_lists
from trueword.grids import along, beyond, first_gain, is_grid, round_sum, turn

# Row t holds what each word is worth to say where t is true.
GRID = [[5, 1, 0], [2, 4, 3], [-1, 6, 7]]


def square(size, worth=0):
    return [[worth] * size for _ in range(size)]


class TestIsGrid(unittest.TestCase):
    def test_one_row_to_eight(self):
        for size in range(1, 9):
            self.assertIs(is_grid(square(size, size)), True)
        self.assertIs(is_grid([[0]]), True)
        self.assertIs(is_grid([[-3]]), True)
        self.assertIs(is_grid(GRID), True)

    def test_none_nine_and_more_rows(self):
        self.assertIs(is_grid([]), False)
        for size in (9, 10, 40):
            self.assertIs(is_grid(square(size)), False)

    def test_rows_of_another_length(self):
        for thing in ([[]], [[1, 2]], [[1, 2], [3]], [[1], [2, 3]], [[1, 2], [3, 4, 5]], [[1, 2, 3], [4, 5, 6]],
                      [[1], [2]], [[1, 2], []], square(8)[:7], square(9)[:8]):
            self.assertIs(is_grid(thing), False, thing)

    def test_rows_that_are_no_lists(self):
        for row in ((1, 2), "12", {0: 1, 1: 2}, {1, 2}, range(2), None, 5, b"12", Loud()):
            self.assertIs(is_grid([[0, 0], row]), False)
            self.assertIs(is_grid([row, [0, 0]]), False)

    def test_numbers_of_sixty_figures_and_of_sixty_one(self):
        for worth in (BIG, -BIG, 10 ** 59, -10 ** 59):
            self.assertIs(is_grid([[worth]]), True)
            self.assertIs(is_grid([[0, 0], [0, worth]]), True)
        for worth in (BIG + 1, -BIG - 1, 10 ** 61, -10 ** 61, 10 ** 5000):
            self.assertIs(is_grid([[worth]]), False)
            for t in range(2):
                for s in range(2):
                    thing = square(2)
                    thing[t][s] = worth
                    self.assertIs(is_grid(thing), False)

    def test_other_things_in_the_place_of_a_number(self):
        for thing in (True, False, None, "", "1", 1.0, 0.5, Fraction(1), 1j, b"1", [1], (1,), {}, int, Loud()):
            self.assertIs(is_grid([[thing]]), False)
            for t in range(3):
                for s in range(3):
                    grid = square(3, 1)
                    grid[t][s] = thing
                    self.assertIs(is_grid(grid), False)

    def test_things_that_are_no_list(self):
        for thing in (None, True, False, 0, 1, -1, 2.5, "", "a", "[[1]]", b"", (), ([1],), ((1,),), {}, {0: [1]},
                      set(), frozenset(), range(1), iter([[1]]), object(), list, is_grid, Loud()):
            self.assertIs(is_grid(thing), False)

    def test_lists_that_hold_themselves(self):
        thing = []
        thing.append(thing)
        self.assertIs(is_grid(thing), False)

    def test_one_list_as_every_row_is_a_grid(self):
        row = [1, 2]
        self.assertIs(is_grid([row, row]), True)

    def test_nothing_is_changed(self):
        for thing in (deepcopy(GRID), [[1, 2], [3]], [[True]]):
            before = deepcopy(thing)
            is_grid(thing)
            self.assertEqual(repr(thing), repr(before))


class TestTurns(unittest.TestCase):
    def test_turn_of_each_two_words(self):
        told = {(s, t): turn(GRID, s, t) for s in range(3) for t in range(3)}
        self.assertEqual(told, {
            (0, 0): 0, (1, 0): 4, (2, 0): 5,
            (0, 1): 2, (1, 1): 0, (2, 1): 1,
            (0, 2): 8, (1, 2): 1, (2, 2): 0,
        })

    def test_turn_in_drawn_grids(self):
        for grid in drawn_grids(8, 5, -20, 20):
            for s in range(8):
                for t in range(8):
                    self.assertEqual(turn(grid, s, t), grid[t][t] - grid[t][s])

    def test_along_one_word_is_nothing(self):
        for word in range(3):
            self.assertEqual(along(GRID, [word]), 0)

    def test_along_several_words(self):
        self.assertEqual(along(GRID, [0, 1]), 2)
        self.assertEqual(along(GRID, [1, 0]), 4)
        self.assertEqual(along(GRID, [0, 1, 2]), 3)
        self.assertEqual(along(GRID, [2, 1, 0]), 5)
        self.assertEqual(along(GRID, [2, 0, 1]), 7)

    def test_along_words_that_come_again(self):
        self.assertEqual(along(GRID, [1, 1]), 0)
        self.assertEqual(along(GRID, [0, 1, 0]), 6)
        self.assertEqual(along(GRID, [0, 1, 1, 0, 1, 2]), 9)
        self.assertEqual(along(GRID, [0, 2] * 150), 150 * 8 + 149 * 5)

    def test_round_one_word_is_nothing(self):
        for word in range(3):
            self.assertEqual(round_sum(GRID, [word]), 0)

    def test_round_several_words(self):
        self.assertEqual(round_sum(GRID, [0, 1]), 6)
        self.assertEqual(round_sum(GRID, [1, 0]), 6)
        self.assertEqual(round_sum(GRID, [0, 1, 2]), 8)
        self.assertEqual(round_sum(GRID, [1, 2, 0]), 8)
        self.assertEqual(round_sum(GRID, [2, 1, 0]), 13)

    def test_round_words_that_come_again(self):
        self.assertEqual(round_sum(GRID, [2, 2]), 0)
        self.assertEqual(round_sum(GRID, [0, 1, 0]), 6)
        self.assertEqual(round_sum(GRID, [0, 1, 0, 2]), 2 + 4 + 8 + 5)

    def test_numbers_of_sixty_figures(self):
        grid = [[BIG, -BIG], [-BIG, BIG]]
        self.assertEqual(turn(grid, 0, 1), 2 * BIG)
        self.assertEqual(along(grid, [0, 1, 0]), 4 * BIG)
        self.assertEqual(round_sum(grid, [0, 1]), 4 * BIG)
        other = [[-BIG, BIG], [BIG, -BIG]]
        self.assertEqual(turn(other, 1, 0), -2 * BIG)
        self.assertEqual(along(other, [1, 0, 1, 0]), -6 * BIG)
        self.assertEqual(round_sum(other, [1, 0]), -4 * BIG)

    def test_nothing_is_changed(self):
        grid, words = deepcopy(GRID), [0, 2, 1, 0]
        turn(grid, 0, 2)
        along(grid, words)
        round_sum(grid, words)
        self.assertEqual(grid, GRID)
        self.assertEqual(words, [0, 2, 1, 0])


def plain_first_gain(grid, pays):
    left = [[grid[t][s] - pays[s] for s in range(len(grid))] for t in range(len(grid))]
    gains = [(t, s, left[t][s] - left[t][t])
             for t in range(len(grid)) for s in range(len(grid)) if left[t][s] > left[t][t]]
    return min(gains, default=None)


class TestFirstGain(unittest.TestCase):
    def test_none_of_honest_payments(self):
        self.assertIsNone(first_gain(GRID, [0, 0, 0]))
        self.assertIsNone(first_gain(GRID, [5, 4, 4]))

    def test_one_word_never_gains(self):
        for pay in (-BIG, -1, 0, 1, BIG):
            self.assertIsNone(first_gain([[3]], [pay]))

    def test_just_honest_and_one_more(self):
        # The payment of t less that of s is the turn: 2 from 0 to 1, then 1 from 1 to 2.
        self.assertIsNone(first_gain(GRID, [0, 2, 3]))
        self.assertEqual(first_gain(GRID, [0, 3, 3]), (1, 0, 1))
        self.assertEqual(first_gain(GRID, [0, 2, 4]), (2, 1, 1))
        self.assertIsNone(first_gain(GRID, [4, 0, 0]))
        self.assertEqual(first_gain(GRID, [5, 0, 0]), (0, 1, 1))

    def test_the_least_true_word_then_the_least_said_one(self):
        grid = [[0, 0, 0], [0, 0, 0], [0, 0, 0]]
        self.assertEqual(first_gain(grid, [5, 3, 1]), (0, 1, 2))
        self.assertEqual(first_gain(grid, [1, 5, 3]), (1, 0, 4))
        self.assertEqual(first_gain(grid, [1, 1, 3]), (2, 0, 2))
        self.assertEqual(first_gain(grid, [1, 3, 0]), (0, 2, 1))

    def test_told_as_a_tuple(self):
        told = first_gain([[0, 2], [0, 0]], [0, 0])
        self.assertIsInstance(told, tuple)
        self.assertEqual(told, (0, 1, 2))

    def test_as_the_words_of_the_document_tell(self):
        for size in range(1, 9):
            for grid in drawn_grids(size, 60, -4, 4):
                for pays in ([0] * size, list(range(size)), [grid[t][t] for t in range(size)], grid[0]):
                    self.assertEqual(first_gain(grid, pays), plain_first_gain(grid, pays))

    def test_as_the_turns_tell_what_is_honest(self):
        for grid in drawn_grids(3, 60, -3, 3):
            for pays in ([0, 0, 0], [1, -1, 0], [grid[t][t] for t in range(3)]):
                honest = all(pays[t] - pays[s] <= turn(grid, s, t) for s in range(3) for t in range(3))
                self.assertIs(first_gain(grid, pays) is None, honest)

    def test_payments_below_nothing(self):
        self.assertIsNone(first_gain(GRID, [-7, -7, -7]))
        self.assertEqual(first_gain(GRID, [-7, -4, -7]), (1, 0, 1))

    def test_numbers_of_many_figures(self):
        self.assertEqual(first_gain([[-BIG, BIG], [0, 0]], [0, 0]), (0, 1, 2 * BIG))
        huge = 10 ** 200
        grid = [[huge, 1], [0, huge]]
        self.assertIsNone(first_gain(grid, [0, huge]))
        self.assertEqual(first_gain(grid, [0, huge + 1]), (1, 0, 1))
        self.assertEqual(first_gain(grid, [0, 3 * huge]), (1, 0, 2 * huge))


class TestBeyond(unittest.TestCase):
    def test_rising(self):
        self.assertEqual(beyond(GRID, [6, 5, 8]), [0, 1, 2])
        self.assertEqual(beyond(GRID, [6, 4, 8]), [0, 2])
        self.assertEqual(beyond(GRID, [0, 100, 0]), [1])

    def test_none_where_a_payment_is_just_the_worth(self):
        self.assertEqual(beyond(GRID, [5, 4, 7]), [])
        self.assertEqual(beyond(GRID, [-1, -1, -1]), [])
        self.assertEqual(beyond([[-2]], [-2]), [])
        self.assertEqual(beyond([[-2]], [-1]), [0])

    def test_also_of_payments_that_are_not_honest(self):
        self.assertEqual(beyond([[0, 9], [9, 0]], [0, 1]), [1])

    def test_numbers_of_many_figures(self):
        grid = [[BIG, 0], [0, -BIG]]
        self.assertEqual(beyond(grid, [BIG, -BIG]), [])
        self.assertEqual(beyond(grid, [BIG + 1, -BIG + 1]), [0, 1])


class TestAskersOwn(unittest.TestCase):
    def test_nothing_handed_in_is_changed(self):
        for pays in ([0, 0, 0], [0, 9, 0], [9, 9, 9]):
            grid, handed = deepcopy(GRID), list(pays)
            first_gain(grid, handed)
            beyond(grid, handed)
            self.assertEqual(grid, GRID)
            self.assertEqual(handed, pays)

    def test_two_told_lists_are_not_one(self):
        for pays in ([9, 9, 9], [0, 0, 0]):
            one = beyond(GRID, pays)
            other = beyond(GRID, pays)
            before = list(other)
            self.assertIsNot(one, other)
            one.append(99)
            self.assertEqual(other, before)
            self.assertEqual(beyond(GRID, pays), before)

    def test_a_told_list_is_none_that_was_handed_in(self):
        pays = [1, 1]
        self.assertIsNot(beyond([[0, 0], [0, 0]], pays), pays)
        grid = [[0, 1], [0, 0]]
        told = beyond(grid, grid[0])
        grid[0][0] = 7
        self.assertEqual(told, [1])


class TestHonestLists(unittest.TestCase):
    """Point [7]: honest payments stay honest as the lesser, the greater, and with a number put to each."""

    def check_all(self, grid, numbers):
        honest = honest_lists(grid, numbers)
        for one in honest:
            for number in (-10 ** 61, -1, 1, 10 ** 61):
                self.assertIsNone(first_gain(grid, [pay + number for pay in one]))
            for other in honest:
                self.assertIsNone(first_gain(grid, [min(a, b) for a, b in zip(one, other)]))
                self.assertIsNone(first_gain(grid, [max(a, b) for a, b in zip(one, other)]))
        return len(honest)

    def test_small_grids(self):
        tried = sum(self.check_all(grid, range(-2, 3)) for grid in all_grids(2, range(-1, 2)))
        self.assertGreater(tried, 100)

    def test_grids_of_three_words(self):
        grids = list(drawn_grids(3, 60, -2, 2)) + [GRID]
        tried = sum(self.check_all(grid, range(-2, 3)) for grid in grids)
        self.assertGreater(tried, 100)

    def test_two_lists_told_by_name(self):
        one, other = [0, 2, 3], [4, 0, 0]
        self.assertIsNone(first_gain(GRID, one))
        self.assertIsNone(first_gain(GRID, other))
        self.assertIsNone(first_gain(GRID, [0, 0, 0]))
        self.assertIsNone(first_gain(GRID, [4, 2, 3]))
        self.assertIsNone(first_gain(GRID, [7, 9, 10]))


if __name__ == "__main__":
    unittest.main()
