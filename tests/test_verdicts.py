import unittest
from copy import deepcopy
from itertools import product
from random import Random

from houses_tried import (HOUSE, TABLE, columns_of, drawn_house, drawn_table, house_of_grid, plain_grid, plain_others,
                          plain_rows, rows_beside, tables_tried)
from samples import (BIG, check_refused, fewest_round_below_zero, grid_of_turns, mixed_grids, payments_within_by_roads,
                     small_grids)
from trueword.grids import along, beyond, first_gain, round_sum
from trueword.pays import greatest
from trueword.rings import ring
from trueword.verdicts import asked, verdict

PAPERS = [
    (0, ("yes",), [5, 2], [[0], [1]]),
    (0, ("no",), [0, 0], [[0], [0, 1]]),
    (0, ("so",), [-1, -1], [[1, 0], [1]]),
    (1, ("hi",), [1, 1, 1], [[1, 0], [1], [1, 0, 2]]),
    (1, ("lo",), [1, 1, 7], [[1, 0], [1], [2]]),
]
ASKED = {
    ("hi", "yes"): [5, 1], ("hi", "no"): [0, 1], ("hi", "so"): [-1, 1],
    ("lo", "yes"): [2, 1], ("lo", "no"): [0, 1], ("lo", "so"): [-1, 7],
}


def first_ring_place(house, table):
    """The first hand and row of the others whose grid has a ring, by trying every list of words."""
    for k, others in columns_of(house):
        if fewest_round_below_zero(plain_grid(house, table, k, others)) is not None:
            return k, others
    return None


def one_hand_minds(sizes, k):
    """A house of two outcomes where all but hand k find them alike, and hand k wants the first by its first word."""
    hands = []
    for j, size in enumerate(sizes):
        words = tuple(f"{sign}w" for sign in "abcdefgh"[:size])
        worths = tuple((1, 0) if t == 0 else (0, 1) for t in range(size)) if j == k else ((3, 3),) * size
        hands.append((f"hand{'abcd'[j]}", words, worths))
    return ("one", "two"), tuple(hands)


def table_crossed_at(house, k, crossed_others):
    """Deals hand k what it wants, and just the other outcome beside the others told."""
    table = {}
    for others in plain_others(house, k):
        for t, row in enumerate(rows_beside(house, k, others)):
            table[row] = house[0][(t > 0) != (others in crossed_others)]
    return table


class TestVerdict(unittest.TestCase):
    def check_papers(self, house, table, told):
        """Each column in order, payments and roads as the grid's greatest payments: by the roads none can be more."""
        self.assertEqual(len(told), 2)
        papers = told[1]
        self.assertIs(type(papers), list)
        self.assertEqual([(k, others) for k, others, pays, ways in papers], columns_of(house))
        for k, others, pays, ways in papers:
            grid = plain_grid(house, table, k, others)
            self.assertIs(type(others), tuple)
            self.assertIs(type(pays), list)
            self.assertIs(type(ways), list)
            self.assertEqual(pays, greatest(grid)[0])
            self.assertIsNone(first_gain(grid, pays))
            self.assertEqual(beyond(grid, pays), [])
            self.assertEqual([road[-1] for road in ways], list(range(len(grid))))
            for road, pay in zip(ways, pays):
                self.assertIs(type(road), list)
                self.assertEqual(len(set(road)), len(road))
                self.assertEqual(grid[road[0]][road[0]] + along(grid, road), pay)

    def check_ring(self, house, table, told, place):
        self.assertEqual(len(told), 4)
        self.assertEqual(told[1:3], place)
        self.assertIs(type(told[1]), int)
        self.assertIs(type(told[2]), tuple)
        words = told[3]
        grid = plain_grid(house, table, *place)
        self.assertIs(type(words), list)
        self.assertEqual(len(set(words)), len(words))
        self.assertLess(round_sum(grid, words), 0)
        self.assertEqual(len(words), fewest_round_below_zero(grid))
        self.assertEqual(len(words), len(ring(grid)))

    def check(self, house, table):
        told = verdict(house, table)
        self.assertIs(type(told), tuple)
        place = first_ring_place(house, table)
        if place is None:
            self.assertEqual(told[0], "pays")
            self.check_papers(house, table, told)
        else:
            self.assertEqual(told[0], "ring")
            self.check_ring(house, table, told, place)
        return told

    def test_told_by_name(self):
        self.assertEqual(verdict(HOUSE, TABLE), ("pays", PAPERS))
        self.check(HOUSE, TABLE)

    def test_a_ring_told_by_name(self):
        table = dict(TABLE)
        table[("hi", "yes")], table[("lo", "yes")] = "road", "park"
        told = verdict(HOUSE, table)
        self.assertEqual(told[:3], ("ring", 0, ("yes",)))
        self.assertEqual(sorted(told[3]), [0, 1])
        # Ana is dealt what she wants or one outcome alone; beside lo, bo is dealt park by no and road by so.
        table = dict(TABLE)
        table[("hi", "no")], table[("lo", "no")], table[("lo", "so")] = "park", "park", "road"
        told = self.check(HOUSE, table)
        self.assertEqual(told[:3], ("ring", 1, ("lo",)))
        self.assertIn(sorted(told[3]), ([0, 1], [1, 2]))

    def test_drawn_tables_of_one_to_four_hands(self):
        seen = {}
        for house, table in tables_tried():
            told = self.check(house, table)
            seen[(told[0], len(house[1]))] = True
            if told[0] == "ring":
                seen[("hand", told[1])] = True
        for count in (1, 2, 3, 4):
            self.assertIn(("ring", count), seen)
            self.assertIn(("pays", count), seen)
        for k in (0, 1, 2):
            self.assertIn(("hand", k), seen)

    def test_a_ring_at_each_place_alone(self):
        for sizes in ([2], [2, 3], [3, 2, 2], [2, 2, 2, 2]):
            for k in range(len(sizes)):
                house = one_hand_minds(sizes, k)
                rows = plain_others(house, k)
                self.assertEqual(self.check(house, table_crossed_at(house, k, []))[0], "pays")
                for others in rows:
                    told = self.check(house, table_crossed_at(house, k, [others]))
                    self.assertEqual(told[:3], ("ring", k, others))
                    self.assertEqual(len(told[3]), 2)

    def test_the_first_of_several_places(self):
        for k in range(3):
            house = one_hand_minds([2, 3, 2], k)
            rows = plain_others(house, k)
            for first, others in enumerate(rows):
                for count in (2, len(rows)):
                    told = self.check(house, table_crossed_at(house, k, rows[first:first + count]))
                    self.assertEqual(told[:3], ("ring", k, others))

    def test_the_first_hand_of_several(self):
        wants = ((1, 0), (0, 1))
        for count in (2, 3, 4):
            for minding in product((False, True), repeat=count):
                hands = tuple((f"hand{'abcd'[k]}", ("aw", "bw"), wants if minds else ((0, 0), (0, 0)))
                              for k, minds in enumerate(minding))
                house = (("one", "two"), hands)
                # Each hand that minds is dealt what it does not want where all the others say their first word.
                table = {row: house[0][row == ("aw",) * count] for row in plain_rows(house)}
                told = self.check(house, table)
                if True in minding:
                    self.assertEqual(told[:3], ("ring", minding.index(True), ("aw",) * (count - 1)))
                else:
                    self.assertEqual(told[0], "pays")

    def test_rings_of_three_words_and_more(self):
        for size in range(3, 7):
            turns = {(s, s + 1): 0 for s in range(size - 1)}
            turns[(size - 1, 0)] = -1
            for before, behind in ((0, 0), (1, 0), (0, 1), (1, 2)):
                house, table = house_of_grid(grid_of_turns(size, turns), before, behind)
                told = self.check(house, table)
                self.assertEqual(told[1], before)
                self.assertEqual(sorted(told[3]), list(range(size)))

    def test_grids_of_one_to_eight_words(self):
        for grid in mixed_grids():
            for before, behind in ((0, 0), (1, 0), (0, 1)):
                house, table = house_of_grid(grid, before, behind)
                told = verdict(house, table)
                if ring(grid) is None:
                    self.assertEqual(told[0], "pays")
                    self.check_papers(house, table, told)
                else:
                    self.assertEqual(told[:3], ("ring", before, plain_others(house, before)[0]))
                    self.assertEqual(len(told[3]), len(ring(grid)))
                    self.assertLess(round_sum(grid, told[3]), 0)

    def test_payments_against_all_roads(self):
        for grid in small_grids():
            house, table = house_of_grid(grid)
            told = verdict(house, table)
            if told[0] == "pays":
                self.assertEqual([pays for k, others, pays, ways in told[1]], [payments_within_by_roads(grid)])

    def test_one_hand(self):
        house = (("x", "y"), (("a", ("u", "v"), ((1, 2), (3, 4))),))
        self.assertEqual(verdict(house, {("u",): "x", ("v",): "x"}), ("pays", [(0, (), [1, 1], [[0], [0, 1]])]))
        one = (("x",), (("a", ("u",), ((-BIG,),)),))
        self.assertEqual(verdict(one, {("u",): "x"}), ("pays", [(0, (), [-BIG], [[0]])]))

    def test_worths_of_sixty_figures(self):
        house = (("x", "y"), (("a", ("u", "v"), ((BIG, -BIG), (BIG, -BIG))),))
        self.assertEqual(self.check(house, {("u",): "x", ("v",): "y"})[1][0][2], [BIG, -BIG])
        house = (("x", "y"), (("a", ("u", "v"), ((BIG, -BIG), (BIG - 1, -BIG))),))
        self.assertEqual(self.check(house, {("u",): "y", ("v",): "x"})[0], "ring")
        self.assertEqual(self.check(house, {("u",): "x", ("v",): "y"})[0], "pays")

    def test_the_largest_houses(self):
        source = Random(5)
        for sizes in ([8, 8, 4], [4, 4, 4, 4]):
            house = drawn_house(source, 8, sizes)
            table = {row: house[0][3] for row in plain_rows(house)}
            self.assertEqual(self.check_only_places(house, table)[0], "pays")
            told = self.check_only_places(house, drawn_table(source, house))
            self.assertEqual(told[0], "ring")

    def check_only_places(self, house, table):
        told = verdict(house, table)
        rings = [place for place in columns_of(house) if ring(plain_grid(house, table, *place)) is not None]
        if told[0] == "ring":
            self.assertEqual(told[1:3], rings[0])
        else:
            self.assertEqual(rings, [])
            self.check_papers(house, table, told)
        return told


class TestAsked(unittest.TestCase):
    def test_told_by_name(self):
        for row, pays in ASKED.items():
            self.assertEqual(asked(HOUSE, TABLE, row), pays)

    def test_each_row_of_tables(self):
        seen = {}
        for house, table in tables_tried():
            payable = first_ring_place(house, table) is None
            seen[(payable, len(house[1]))] = True
            for row in plain_rows(house):
                if payable:
                    self.check_row(house, table, row)
                else:
                    check_refused(self, "NoPays", asked, house, table, row)
        self.assertEqual(len(seen), 8)

    def check_row(self, house, table, row):
        plain = []
        for k, (name, words, worths) in enumerate(house[1]):
            pays = greatest(plain_grid(house, table, k, row[:k] + row[k + 1:]))[0]
            plain.append(pays[words.index(row[k])])
        told = asked(house, table, row)
        self.assertIs(type(told), list)
        self.assertEqual(told, plain)

    def test_as_the_papers_tell(self):
        for house, table in tables_tried():
            told = verdict(house, table)
            if told[0] == "pays":
                pays_at = {(k, others): pays for k, others, pays, ways in told[1]}
                for row in plain_rows(house):
                    plain = [pays_at[(k, row[:k] + row[k + 1:])][house[1][k][1].index(row[k])] for k in range(len(row))]
                    self.assertEqual(asked(house, table, row), plain)

    def test_refused_where_the_ring_is_elsewhere(self):
        for sizes in ([2, 3], [3, 2, 2], [2, 2, 2, 2]):
            for k in range(len(sizes)):
                house = one_hand_minds(sizes, k)
                for others in plain_others(house, k):
                    table = table_crossed_at(house, k, [others])
                    for row in plain_rows(house):
                        grids = [plain_grid(house, table, j, row[:j] + row[j + 1:]) for j in range(len(row))]
                        ringless = all(fewest_round_below_zero(grid) is None for grid in grids)
                        self.assertEqual(ringless, row[:k] + row[k + 1:] != others)
                        check_refused(self, "NoPays", asked, house, table, row)

    def test_one_hand(self):
        house = (("x", "y"), (("a", ("u", "v"), ((1, 2), (3, 4))),))
        self.assertEqual(asked(house, {("u",): "x", ("v",): "x"}, ("u",)), [1])
        self.assertEqual(asked(house, {("u",): "y", ("v",): "y"}, ("v",)), [2])

    def test_a_word_of_one_name_in_several_hands(self):
        worths = ((4, 0), (0, 6))
        house = (("x", "y"), (("a", ("u", "v"), worths), ("b", ("v", "u"), worths)))
        table = {("u", "v"): "x", ("u", "u"): "x", ("v", "v"): "x", ("v", "u"): "y"}
        for row in table:
            self.check_row(house, table, row)
        self.assertEqual(asked(house, table, ("u", "v")), [0, 0])
        self.assertEqual(asked(house, table, ("v", "u")), [6, 6])

    def test_one_number_worths_by_each_row(self):
        house = one_hand_minds([3, 2], 0)
        table = table_crossed_at(house, 0, [])
        for row in plain_rows(house):
            self.check_row(house, table, row)


class TestOneNumberWorths(unittest.TestCase):
    """Worths that are number times share and gift."""

    def check(self, numbers, shares, gifts, dealt):
        outcomes = tuple("abcdefgh"[:len(shares)])
        words = tuple(f"w{sign}" for sign in "abcdefgh"[:len(numbers)])
        worths = tuple(tuple(number * share + gift for share, gift in zip(shares, gifts)) for number in numbers)
        house = (outcomes, (("one", words, worths),))
        told = verdict(house, {(word,): outcomes[place] for word, place in zip(words, dealt)})
        size = range(len(numbers))
        falls = {(t, u) for t in size for u in size
                 if numbers[t] > numbers[u] and shares[dealt[t]] < shares[dealt[u]]}
        if falls:
            self.assertEqual(told[:3], ("ring", 0, ()))
            self.assertEqual(len(told[3]), 2)
            self.assertTrue(tuple(told[3]) in falls or tuple(reversed(told[3])) in falls)
        else:
            self.assertEqual(told[0], "pays")
        return told[0]

    def test_all_tables_of_a_few_words(self):
        told = []
        for numbers in ((1, 2, 3), (2, 2, 5), (3, 0, -4), (0, 0, 0), (-1, 7, -1)):
            for shares, gifts in (((0, 1, 2), (0, 0, 0)), ((5, 5, -3), (1, -9, 40)), ((4, 0, 4), (-7, 2, 2))):
                for dealt in product(range(3), repeat=3):
                    told.append(self.check(numbers, shares, gifts, dealt))
        self.assertGreater(told.count("ring"), 50)
        self.assertGreater(told.count("pays"), 50)

    def test_drawn_ones_of_one_to_eight_words(self):
        source = Random(18)
        for size in range(1, 9):
            for _ in range(25):
                numbers = [source.randint(-4, 4) for _ in range(size)]
                shares = [source.randint(-3, 3) for _ in range(source.randint(1, 8))]
                gifts = [source.randint(-20, 20) for _ in shares]
                dealt = [source.randrange(len(shares)) for _ in range(size)]
                self.check(numbers, shares, gifts, dealt)
                # Dealt by the order of numbers and shares, so that no word falls.
                order = sorted(range(size), key=lambda t: numbers[t])
                places = sorted(dealt, key=lambda place: shares[place])
                rising = dict(zip(order, places))
                self.assertEqual(self.check(numbers, shares, gifts, [rising[t] for t in range(size)]), "pays")

    def test_numbers_of_thirty_figures(self):
        big = 10 ** 29
        self.assertEqual(self.check([big, big + 1], [big, big + 1], [5, -big], [0, 1]), "pays")
        self.assertEqual(self.check([big, big + 1], [big, big + 1], [5, -big], [1, 0]), "ring")
        self.assertEqual(self.check([-big, -big - 1, 0], [big, -big, 0], [0, 0, 0], [2, 1, 0]), "pays")


class TestAskersOwn(unittest.TestCase):
    def test_nothing_handed_in_is_changed(self):
        for house, table in tables_tried():
            before = list(table.items())
            told = verdict(house, table)
            for row in plain_rows(house):
                if told[0] == "pays":
                    asked(house, table, row)
                else:
                    check_refused(self, "NoPays", asked, house, table, row)
            self.assertEqual(list(table.items()), before)

    def test_no_two_lists_told_are_one(self):
        for house, table in tables_tried():
            first, second = verdict(house, table), verdict(house, table)
            lists = []
            for told in (first, second):
                if told[0] == "ring":
                    lists.append(told[3])
                else:
                    lists.append(told[1])
                    for k, others, pays, ways in told[1]:
                        lists.extend([pays, ways] + ways)
            self.assertEqual(len({id(one) for one in lists}), len(lists))

    def test_told_papers_may_be_changed(self):
        told = verdict(HOUSE, TABLE)
        other = verdict(HOUSE, TABLE)
        for place, (k, others, pays, ways) in enumerate(told[1]):
            pays[0] = 99
            ways[0].append(99)
            ways[1].clear()
            ways.append([7])
            for later, plain in zip(told[1][place + 1:], PAPERS[place + 1:]):
                self.assertEqual(later, plain)
        told[1].clear()
        self.assertEqual(other, ("pays", PAPERS))
        self.assertEqual(verdict(HOUSE, TABLE), ("pays", PAPERS))

    def test_told_rings_and_askings_may_be_changed(self):
        house = one_hand_minds([2, 2], 1)
        table = table_crossed_at(house, 1, [("bw",)])
        told = verdict(house, table)
        before = deepcopy(told)
        told[3].clear()
        self.assertEqual(verdict(house, table), before)
        one, other = asked(HOUSE, TABLE, ("hi", "yes")), asked(HOUSE, TABLE, ("hi", "yes"))
        one.clear()
        self.assertEqual(other, [5, 1])
        self.assertEqual(asked(HOUSE, TABLE, ("hi", "yes")), [5, 1])

    def test_what_is_changed_behind_the_call_changes_nothing_told(self):
        table = dict(TABLE)
        told, pays = verdict(HOUSE, table), asked(HOUSE, table, ("lo", "so"))
        for row in table:
            table[row] = "park"
        table.clear()
        self.assertEqual(told, ("pays", PAPERS))
        self.assertEqual(pays, [-1, 7])


if __name__ == "__main__":
    unittest.main()
