import unittest
from itertools import product
from random import Random

from houses_tried import (HOUSE, columns_of, drawn_house, drawn_houses, plain_grid, plain_rows, rows_beside, worth_of)
from samples import BIG, THINGS, Loud, check_refused, self_holder
from trueword.best import best_table, pivots, scores
from trueword.grids import first_gain
from trueword.pays import greatest
from trueword.tables import is_table
from trueword.verdicts import verdict

ROW = ("hi", "no")
ONE = (("x", "y", "z"), (("a", ("u", "v"), ((4, 9, 9), (-2, 0, 5))),))

WEIGHTS = ((1,), (1, 2, 5), (1, BIG))
HANDICAPS = ((0,), range(-4, 5), (-BIG, 0, BIG))


def plain_part(house, weights, row, k, outcome):
    return weights[k] * worth_of(house, k, row[k], outcome)


def plain_scores(house, weights, handicaps, row):
    return [sum(plain_part(house, weights, row, k, outcome) for k in range(len(row))) + handicap
            for outcome, handicap in zip(house[0], handicaps)]


def plain_best(house, weights, handicaps, row):
    told = plain_scores(house, weights, handicaps, row)
    return [outcome for outcome, score in zip(house[0], told) if score == max(told)][0]


def plain_pivot(house, weights, handicaps, row, k):
    """By adding up the parts of the other hands alone."""
    rest = {outcome: sum(plain_part(house, weights, row, j, outcome) for j in range(len(row)) if j != k) + handicap
            for outcome, handicap in zip(house[0], handicaps)}
    return max(rest.values()) - rest[plain_best(house, weights, handicaps, row)]


def rules_tried(seed, count, least=-5, most=5):
    """Houses of one to four hands with drawn weights and handicaps; many have several best outcomes at a row."""
    source = Random(seed)
    for place, house in enumerate(drawn_houses(seed, count, least, most)):
        weights = [source.choice(WEIGHTS[place % 3]) for _ in house[1]]
        yield house, weights, [source.choice(HANDICAPS[place // 3 % 3]) for _ in house[0]]


class TestScores(unittest.TestCase):
    def test_told_by_name(self):
        self.assertEqual(scores(HOUSE, [1, 1], [0, 0], ("hi", "yes")), [8, 3])
        self.assertEqual(scores(HOUSE, [2, 3], [0, -4], ("hi", "yes")), [19, 5])
        self.assertEqual(scores(HOUSE, [2, 3], [1, 10], ("lo", "so")), [20, -7])
        self.assertEqual(scores(ONE, [3], [0, -1, -20], ("u",)), [12, 26, 7])

    def test_each_row(self):
        for house, weights, handicaps in rules_tried(21, 90):
            for row in plain_rows(house):
                told = scores(house, weights, handicaps, row)
                self.assertIs(type(told), list)
                self.assertEqual(told, plain_scores(house, weights, handicaps, row))

    def test_weights_and_handicaps_of_sixty_figures(self):
        house = (("x", "y"), (("a", ("u",), ((BIG, -BIG),)), ("b", ("u",), ((BIG, 0),))))
        self.assertEqual(scores(house, [BIG, BIG], [BIG, -BIG], ("u", "u")), [2 * BIG * BIG + BIG, -BIG * BIG - BIG])


class TestBestTable(unittest.TestCase):
    def test_told_by_name(self):
        self.assertEqual(best_table(HOUSE, [1, 1], [0, 0]), {
            ("hi", "yes"): "park", ("hi", "no"): "park", ("hi", "so"): "park",
            ("lo", "yes"): "road", ("lo", "no"): "road", ("lo", "so"): "park",
        })
        self.assertEqual(best_table(HOUSE, [1, 9], [0, -40]), {row: "park" for row in plain_rows(HOUSE)})

    def test_of_several_best_outcomes_the_first(self):
        self.assertEqual(best_table(ONE, [1], [0, 0, 0]), {("u",): "y", ("v",): "z"})
        self.assertEqual(best_table(ONE, [1], [5, 0, 0]), {("u",): "x", ("v",): "z"})
        self.assertEqual(best_table(ONE, [1], [5, 0, -5]), {("u",): "x", ("v",): "x"})
        self.assertEqual(best_table(ONE, [2], [0, 4, -6]), {("u",): "y", ("v",): "y"})
        # Neither by letters nor by worth.
        house = (("b", "a"), (("c", ("w",), ((1, 9),)),))
        self.assertEqual(best_table(house, [1], [8, 0]), {("w",): "b"})
        self.assertEqual(best_table(house, [1], [7, 0]), {("w",): "a"})

    def test_each_row(self):
        several = 0
        for house, weights, handicaps in rules_tried(22, 120):
            told = best_table(house, weights, handicaps)
            self.assertIs(type(told), dict)
            self.assertIs(is_table(house, told), True)
            for row in plain_rows(house):
                self.assertEqual(told[row], plain_best(house, weights, handicaps, row))
                plain = plain_scores(house, weights, handicaps, row)
                several += plain.count(max(plain)) > 1
        self.assertGreater(several, 20)

    def test_every_weighted_best_table_is_payable(self):
        for house, weights, handicaps in rules_tried(23, 120):
            self.assertEqual(verdict(house, best_table(house, weights, handicaps))[0], "pays")

    def test_the_largest_houses(self):
        source = Random(24)
        for sizes in ([8, 8, 4], [4, 4, 4, 4]):
            house = drawn_house(source, 8, sizes, -BIG, BIG)
            weights = [source.randint(1, BIG) for _ in sizes]
            handicaps = [source.randint(-BIG, BIG) for _ in range(8)]
            told = best_table(house, weights, handicaps)
            self.assertEqual(told, {row: plain_best(house, weights, handicaps, row) for row in plain_rows(house)})
            self.assertEqual(verdict(house, told)[0], "pays")


class TestPivots(unittest.TestCase):
    def test_told_by_name(self):
        # Without ana road has 1 more than park beside no, and park is dealt; without bo nothing is lost.
        self.assertEqual(pivots(HOUSE, [1, 1], [0, 0], ("hi", "no")), [1, 0])
        self.assertEqual(pivots(HOUSE, [1, 1], [0, 0], ("hi", "yes")), [0, 0])
        self.assertEqual(pivots(HOUSE, [1, 1], [0, 0], ("lo", "so")), [0, 3])
        # Both have 5 with a handicap of 3, so park is dealt; with one of 4 road is.
        self.assertEqual(pivots(HOUSE, [1, 2], [0, 3], ("hi", "no")), [5, 0])
        self.assertEqual(pivots(HOUSE, [1, 2], [0, 4], ("hi", "no")), [0, 1])
        self.assertEqual(pivots(HOUSE, [2, 1], [0, 3], ("hi", "no")), [4, 0])

    def test_against_the_handicaps_where_one_hand_is_alone(self):
        self.assertEqual(pivots(ONE, [1], [0, 0, 0], ("u",)), [0])
        self.assertEqual(pivots(ONE, [1], [2, 0, -3], ("u",)), [2])
        self.assertEqual(pivots(ONE, [1], [2, 0, -3], ("v",)), [5])
        self.assertEqual(pivots(ONE, [7], [-9, -2, -4], ("v",)), [2])

    def test_each_row(self):
        above = 0
        for house, weights, handicaps in rules_tried(25, 120):
            for row in plain_rows(house):
                told = pivots(house, weights, handicaps, row)
                self.assertIs(type(told), list)
                self.assertEqual(told, [plain_pivot(house, weights, handicaps, row, k) for k in range(len(row))])
                self.assertGreaterEqual(min(told), 0)
                above += max(told) > 0
        self.assertGreater(above, 100)

    def test_columns_are_honest_for_the_grid_times_the_weight(self):
        for house, weights, handicaps in rules_tried(26, 120):
            table = best_table(house, weights, handicaps)
            for k, others in columns_of(house):
                grid = [[weights[k] * worth for worth in row] for row in plain_grid(house, table, k, others)]
                column = [pivots(house, weights, handicaps, row)[k] for row in rows_beside(house, k, others)]
                self.assertIsNone(first_gain(grid, column))

    def test_no_more_than_the_worth_where_none_is_below_nothing(self):
        for house, weights, handicaps in rules_tried(27, 120, 0, 9):
            table = best_table(house, weights, handicaps)
            for k, others in columns_of(house):
                pays = greatest(plain_grid(house, table, k, others))[0]
                for pay, row in zip(pays, rows_beside(house, k, others)):
                    told = pivots(house, weights, handicaps, row)[k]
                    self.assertLessEqual(told, weights[k] * worth_of(house, k, row[k], table[row]))
                    self.assertLessEqual(told, weights[k] * pay)

    def test_where_this_hand_alone_has_no_worth_below_nothing(self):
        source = Random(28)
        for _ in range(40):
            low, high = drawn_house(source, 3, [2, 3]), drawn_house(source, 3, [2, 3], 0, 9)
            house = (low[0], (low[1][0], high[1][1]))
            weights, handicaps = [source.randint(1, 3), source.randint(1, 3)], [source.randint(-5, 5) for _ in range(3)]
            table = best_table(house, weights, handicaps)
            for row in plain_rows(house):
                told = pivots(house, weights, handicaps, row)[1]
                self.assertLessEqual(told, weights[1] * worth_of(house, 1, row[1], table[row]))

    def test_numbers_of_sixty_figures(self):
        worths = (((BIG, -BIG), (-BIG, BIG)), ((-BIG, BIG), (BIG, -BIG)))
        house = (("x", "y"), tuple((name, ("u", "v"), worth) for name, worth in zip("ab", worths)))
        self.assertEqual(pivots(house, [BIG, BIG - 1], [0, 0], ("u", "u")), [2 * BIG * (BIG - 1), 0])
        self.assertEqual(pivots(house, [1, 1], [-BIG, BIG], ("u", "u")), [0, 0])
        self.assertEqual(pivots(house, [1, 1], [-BIG, BIG], ("u", "v")), [0, 0])
        self.assertEqual(pivots(house, [2, 1], [-BIG, BIG], ("u", "v")), [0, 0])
        self.assertEqual(pivots(house, [2, 1], [-BIG, BIG], ("v", "v")), [0, 0])


class TestNoWeight(unittest.TestCase):
    WRONG = (True, False, None, "", "1", 1.0, 1.5, 1j, (1,), [1], {}, b"1", BIG + 1, 10 ** 60, 10 ** 300, -BIG - 1,
             float("inf"), float("nan"), int, Loud())

    def refused(self, weights, handicaps, house=HOUSE, row=ROW):
        check_refused(self, "NoWeight", scores, house, weights, handicaps, row)
        check_refused(self, "NoWeight", best_table, house, weights, handicaps)
        check_refused(self, "NoWeight", pivots, house, weights, handicaps, row)

    def taken(self, weights, handicaps):
        self.assertEqual(scores(HOUSE, weights, handicaps, ROW), plain_scores(HOUSE, weights, handicaps, ROW))
        self.assertEqual(best_table(HOUSE, weights, handicaps)[ROW], plain_best(HOUSE, weights, handicaps, ROW))
        self.assertEqual(pivots(HOUSE, weights, handicaps, ROW),
                         [plain_pivot(HOUSE, weights, handicaps, ROW, k) for k in range(2)])

    def test_of_anything(self):
        for thing in THINGS + [self_holder(), (1, 1), (0, 0), "11", "1 1", {1: 1, 2: 2}, {0: 1, 1: 1}, {1, 2},
                               frozenset((1, 2)), range(1, 3), iter([1, 1]), [[1, 1]], [(1, 1)], b"ab", HOUSE]:
            self.refused(thing, [0, 0])
            self.refused([1, 1], thing)
            self.refused(thing, thing)

    def test_too_few_or_too_many(self):
        for count in (0, 1, 3, 4, 300):
            self.refused([1] * count, [0, 0])
            self.refused([1, 1], [0] * count)
        # As many weights as outcomes and handicaps as hands are none either, where those are not as many.
        for weights, handicaps in (([1, 1, 1], [0]), ([1, 1, 1], [0, 0, 0]), ([1], [0]), ([], [0, 0, 0])):
            self.refused(weights, handicaps, ONE, ("u",))

    def test_weights_below_one(self):
        for wrong in (0, -1, -5, -BIG):
            self.refused([wrong, 1], [0, 0])
            self.refused([1, wrong], [0, 0])
            self.refused([wrong, wrong], [0, 0])
            self.taken([1, 1], [wrong, 0])
            self.taken([1, 1], [0, wrong])

    def test_what_is_no_whole_number_of_at_most_sixty_figures(self):
        for wrong in self.WRONG:
            self.refused([wrong, 1], [0, 0])
            self.refused([1, wrong], [0, 0])
            self.refused([1, 1], [wrong, 0])
            self.refused([1, 1], [0, wrong])
            self.refused([wrong, wrong], [wrong, wrong])

    def test_the_least_and_the_greatest_are_taken(self):
        for weights, handicaps in product(product((1, BIG), repeat=2), product((-BIG, -1, 0, 1, BIG), repeat=2)):
            self.taken(list(weights), list(handicaps))

    def test_one_hand_and_one_outcome(self):
        house = (("x",), (("a", ("u",), ((5,),)),))
        self.assertEqual(scores(house, [3], [-20], ("u",)), [-5])
        self.assertEqual(best_table(house, [3], [-20]), {("u",): "x"})
        self.assertEqual(pivots(house, [3], [-20], ("u",)), [0])
        for weights, handicaps in (([0], [0]), ([], [0]), ([1], []), ([1, 1], [0]), ([1], [0, 0]), ([True], [0]),
                                   ([1], [False]), (1, 0), ([1], 0), (1, [0])):
            self.refused(weights, handicaps, house, ("u",))


class TestAskersOwn(unittest.TestCase):
    def test_nothing_handed_in_is_changed(self):
        for house, weights, handicaps in rules_tried(29, 40):
            before = (list(weights), list(handicaps))
            best_table(house, weights, handicaps)
            for row in plain_rows(house):
                scores(house, weights, handicaps, row)
                pivots(house, weights, handicaps, row)
            self.assertEqual((weights, handicaps), before)
        for call in (scores, pivots):
            weights, handicaps = [1, None], [0, True]
            check_refused(self, "NoWeight", call, HOUSE, weights, handicaps, ROW)
            self.assertEqual((weights, handicaps), ([1, None], [0, True]))

    def test_told_lists_and_tables_may_be_changed(self):
        for call in (scores, pivots):
            before = list(call(HOUSE, [2, 1], [0, 3], ROW))
            one, other = call(HOUSE, [2, 1], [0, 3], ROW), call(HOUSE, [2, 1], [0, 3], ROW)
            one[0] = 99
            one.append(7)
            self.assertEqual(other, before)
            self.assertEqual(call(HOUSE, [2, 1], [0, 3], ROW), before)
        before = dict(best_table(HOUSE, [1, 1], [0, 0]))
        one, other = best_table(HOUSE, [1, 1], [0, 0]), best_table(HOUSE, [1, 1], [0, 0])
        one.clear()
        self.assertEqual(other, before)
        self.assertEqual(best_table(HOUSE, [1, 1], [0, 0]), before)

    def test_what_is_changed_behind_the_call_changes_nothing_told(self):
        weights, handicaps = [2, 1], [0, 3]
        told = (scores(HOUSE, weights, handicaps, ROW), pivots(HOUSE, weights, handicaps, ROW),
                best_table(HOUSE, weights, handicaps))
        before = (list(told[0]), list(told[1]), dict(told[2]))
        weights[0], handicaps[1] = 50, -50
        weights.clear()
        handicaps.clear()
        self.assertEqual(told, before)

    def test_told_scores_are_not_the_handicaps(self):
        handicaps = [4, -4]
        told = scores((("x", "y"), (("a", ("u",), ((0, 0),)),)), [1], handicaps, ("u",))
        told[0] = 99
        self.assertEqual(handicaps, [4, -4])


if __name__ == "__main__":
    unittest.main()
