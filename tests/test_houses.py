import string
import unittest
from copy import deepcopy
from fractions import Fraction
from itertools import product

from houses_tried import HANDS, HOUSE, OUTCOMES, lists_of, tuples_of
from samples import BIG, THINGS, Loud, check_refused, self_holder
from trueword.houses import house_of, is_name, others_of, row_with, rows_of


class TestIsName(unittest.TestCase):
    def test_one_to_eight_small_letters(self):
        for sign in string.ascii_lowercase:
            self.assertIs(is_name(sign), True)
        for length in range(1, 9):
            self.assertIs(is_name("z" * length), True)
            self.assertIs(is_name("abcdefgh"[:length]), True)

    def test_none_nine_and_more_letters(self):
        for name in ("", "abcdefghi", "a" * 9, "a" * 300, "a" * 4000):
            self.assertIs(is_name(name), False)

    def test_other_signs_at_any_place(self):
        others = [chr(code) for code in range(256) if chr(code) not in string.ascii_lowercase]
        for sign in others + ["\u0131", "\u03b1", "\uff41", "\u0301", "\U0001d41a", "\u2028"]:
            for name in (sign, sign + "a", "a" + sign, "ab" + sign + "c", "abcdefg" + sign, sign + "abcdefg"):
                self.assertIs(is_name(name), False, repr(name))

    def test_things_of_other_kinds(self):
        for thing in THINGS + [self_holder()]:
            self.assertIs(is_name(thing), isinstance(thing, str) and thing == "a")


class TestHouseOf(unittest.TestCase):
    def test_told_by_name(self):
        self.assertEqual(house_of(OUTCOMES, HANDS), HOUSE)

    def test_all_is_tuples(self):
        outcomes, hands = house_of(OUTCOMES, HANDS)
        self.assertIs(type(outcomes), tuple)
        self.assertIs(type(hands), tuple)
        for hand in hands:
            self.assertIs(type(hand), tuple)
            self.assertIs(type(hand[1]), tuple)
            self.assertIs(type(hand[2]), tuple)
            self.assertEqual({type(row) for row in hand[2]}, {tuple})

    def test_houses_of_each_size(self):
        sizes = [list(some) for count in (1, 2) for some in product(range(1, 9), repeat=count)]
        sizes += [list(some) for count in (3, 4) for some in product((1, 2, 4), repeat=count)]
        for outcomes in (1, 2, 5, 8):
            for some in sizes:
                handed = lists_of(outcomes, some)
                self.assertEqual(house_of(*handed), tuples_of(*handed))

    def test_rows_at_most_256(self):
        for sizes in ([8, 8, 4], [4, 4, 4, 4], [8, 8, 4, 1], [2, 8, 8, 2], [5, 7, 7], [3, 3, 4, 7]):
            self.assertEqual(house_of(*lists_of(2, sizes)), tuples_of(*lists_of(2, sizes)))
        for sizes in ([8, 8, 5], [8, 8, 8], [4, 4, 4, 5], [5, 4, 4, 4], [8, 8, 8, 8], [1, 8, 5, 7], [7, 7, 6],
                      [6, 6, 8], [3, 3, 5, 6]):
            check_refused(self, "NoHouse", house_of, *lists_of(2, sizes))

    def test_one_name_as_outcome_hand_and_word(self):
        made = house_of(["a"], [("a", ["a"], [[1]]), ("b", ["a", "b"], [[2], [3]])])
        self.assertEqual(made, (("a",), (("a", ("a",), ((1,),)), ("b", ("a", "b"), ((2,), (3,))))))

    def test_worths_of_sixty_figures(self):
        for worth in (BIG, -BIG, 0, -1, 10 ** 59):
            self.assertEqual(house_of(["x"], [("a", ["b"], [[worth]])]), (("x",), (("a", ("b",), ((worth,),)),)))

    def test_worths_that_are_none(self):
        for worth in (BIG + 1, -BIG - 1, 10 ** 61, True, False, None, "1", "", 1.0, [1], (1,), Fraction(1), Loud()):
            check_refused(self, "NoHouse", house_of, ["x"], [("a", ["b"], [[worth]])])
            for k, (t, s) in product(range(2), product(range(2), range(2))):
                hands = deepcopy(HANDS)
                hands[k][2][t][s] = worth
                check_refused(self, "NoHouse", house_of, OUTCOMES, hands)

    def test_worths_too_many_or_too_few(self):
        for worths in ([], [[1, 2]], [[1, 2], [3, 4], [5, 6]], [[1], [2, 3]], [[1, 2], [3]], [[1, 2], []],
                       [[1, 2, 3], [4, 5]], [[1, 2], [3, 4, 5]], [[1], [2]], [1, 2, 3, 4], [[], []],
                       [(1, 2), [3, 4]], [[1, 2], (3, 4)], ([1, 2], [3, 4]), {0: [1, 2], 1: [3, 4]}, [[1, 2], "34"],
                       [[1, 2], None], [[1, 2], {0: 3, 1: 4}], [[1, 2], range(2)], self_holder()):
            check_refused(self, "NoHouse", house_of, OUTCOMES, [("ana", ["hi", "lo"], worths)])

    def test_outcomes_too_many_none_doubled_or_no_names(self):
        for count in (0, 9, 10, 26):
            outcomes = [sign for sign in string.ascii_lowercase[:count]]
            check_refused(self, "NoHouse", house_of, outcomes, [("a", ["b"], [[0] * count])])
        for outcomes in (["a", "a"], ["a", "b"] * 2, ["a", "b", "c", "a"]):
            check_refused(self, "NoHouse", house_of, outcomes, [("a", ["b"], [[0] * len(outcomes)])])
        for thing in THINGS + [self_holder(), "a\n", "\tab", "abcdefghi"]:
            if not is_name(thing):
                check_refused(self, "NoHouse", house_of, [thing], [("a", ["b"], [[0]])])
                check_refused(self, "NoHouse", house_of, ["park", thing], [("a", ["b"], [[0, 0]])])

    def test_words_too_many_none_doubled_or_no_names(self):
        for count in (0, 9, 10, 26):
            words = [sign for sign in string.ascii_lowercase[:count]]
            check_refused(self, "NoHouse", house_of, ["x"], [("a", words, [[0]] * count)])
        for words in (["a", "a"], ["a", "b", "a"]):
            check_refused(self, "NoHouse", house_of, ["x"], [("a", words, [[0]] * len(words))])
        for thing in THINGS + [self_holder(), "a\n", "\tab", "abcdefghi"]:
            if not is_name(thing):
                check_refused(self, "NoHouse", house_of, ["x"], [("a", [thing], [[0]])])
                check_refused(self, "NoHouse", house_of, ["x"], [("a", ["b", thing], [[0], [0]])])
        for words in (("b",), "b", {"b": 1}, {"b"}, None, 1, Loud()):
            check_refused(self, "NoHouse", house_of, ["x"], [("a", words, [[0]])])

    def test_hands_too_many_none_doubled_or_no_names(self):
        hands = [(sign, ["w"], [[0]]) for sign in "abcde"]
        for count in range(1, 5):
            self.assertEqual(house_of(["x"], hands[:count]), tuples_of(["x"], hands[:count]))
        check_refused(self, "NoHouse", house_of, ["x"], [])
        check_refused(self, "NoHouse", house_of, ["x"], hands)
        check_refused(self, "NoHouse", house_of, ["x"], hands * 60)
        check_refused(self, "NoHouse", house_of, ["x"], hands[:1] * 2)
        check_refused(self, "NoHouse", house_of, ["x"], [hands[0], hands[1], ("a", ["v"], [[1]])])
        for thing in THINGS + [self_holder(), "a\n", "\tab", "abcdefghi"]:
            if not is_name(thing):
                check_refused(self, "NoHouse", house_of, ["x"], [(thing, ["w"], [[0]])])
                check_refused(self, "NoHouse", house_of, ["x"], [("b", ["w"], [[0]]), (thing, ["w"], [[0]])])

    def test_hands_that_are_tuples_of_another_length(self):
        for hand in ((), ("a",), ("a", ["w"]), ("a", ["w"], [[0]], [[0]]), ("a", ["w"], [[0]], None),
                     (("a", ["w"], [[0]]),)):
            check_refused(self, "NoHouse", house_of, ["x"], [hand])
            check_refused(self, "NoHouse", house_of, ["x"], [("b", ["w"], [[0]]), hand])

    def test_hands_that_are_no_tuples(self):
        for hand in (["a", ["w"], [[0]]], {0: "a", 1: ["w"], 2: [[0]]}, "abc", None, 3, Loud()):
            check_refused(self, "NoHouse", house_of, ["x"], [hand])

    def test_a_house_is_not_made_of_a_house(self):
        check_refused(self, "NoHouse", house_of, *HOUSE)
        check_refused(self, "NoHouse", house_of, OUTCOMES, HOUSE[1])
        check_refused(self, "NoHouse", house_of, OUTCOMES, list(HOUSE[1]))
        check_refused(self, "NoHouse", house_of, HOUSE[0], HANDS)

    def test_tuples_in_the_place_of_lists(self):
        check_refused(self, "NoHouse", house_of, tuple(OUTCOMES), HANDS)
        check_refused(self, "NoHouse", house_of, OUTCOMES, tuple(HANDS))

    def test_of_anything(self):
        for thing in THINGS + [self_holder()]:
            check_refused(self, "NoHouse", house_of, thing, thing)
            check_refused(self, "NoHouse", house_of, OUTCOMES, thing)
            if repr(thing) != "['a']":
                check_refused(self, "NoHouse", house_of, thing, [("a", ["b"], [[0]])])
            for place in range(3):
                hand = list(HANDS[0])
                hand[place] = thing
                if not (place == 0 and is_name(thing)):
                    check_refused(self, "NoHouse", house_of, OUTCOMES, [tuple(hand)])
            check_refused(self, "NoHouse", house_of, OUTCOMES, [thing])
            check_refused(self, "NoHouse", house_of, OUTCOMES, HANDS + [thing])


class TestRows(unittest.TestCase):
    ONE = house_of(["x"], [("a", ["u", "v"], [[1], [2]])])

    def test_rows_told_by_name(self):
        self.assertEqual(rows_of(HOUSE), [("hi", "yes"), ("hi", "no"), ("hi", "so"),
                                          ("lo", "yes"), ("lo", "no"), ("lo", "so")])

    def test_others_told_by_name(self):
        self.assertEqual(others_of(HOUSE, 0), [("yes",), ("no",), ("so",)])
        self.assertEqual(others_of(HOUSE, 1), [("hi",), ("lo",)])

    def test_words_as_they_stand_not_by_letters(self):
        house = house_of(["x"], [("b", ["z", "a"], [[0], [0]]), ("a", ["y", "b"], [[0], [0]])])
        self.assertEqual(rows_of(house), [("z", "y"), ("z", "b"), ("a", "y"), ("a", "b")])
        self.assertEqual(others_of(house, 0), [("y",), ("b",)])

    def test_one_hand(self):
        self.assertEqual(rows_of(self.ONE), [("u",), ("v",)])
        self.assertEqual(others_of(self.ONE, 0), [()])

    def test_one_to_four_hands(self):
        for sizes in ([1], [8], [2, 3], [8, 8], [1, 5, 2], [8, 8, 4], [2, 3, 1, 4], [4, 4, 4, 4]):
            house = house_of(*lists_of(2, sizes))
            words = [hand[1] for hand in house[1]]
            self.assertEqual(rows_of(house), list(product(*words)))
            for k in range(len(sizes)):
                others = others_of(house, k)
                self.assertEqual(others, list(product(*(words[:k] + words[k + 1:]))))
                for row in others:
                    self.assertIs(type(row), tuple)
                rows = [row_with(row, k, word) for row in others for word in words[k]]
                self.assertEqual(sorted(rows), sorted(rows_of(house)))

    def test_row_with_at_each_place(self):
        self.assertEqual(row_with((), 0, "w"), ("w",))
        self.assertEqual(row_with(("a",), 0, "w"), ("w", "a"))
        self.assertEqual(row_with(("a",), 1, "w"), ("a", "w"))
        for k, row in enumerate([("w", "a", "b", "c"), ("a", "w", "b", "c"), ("a", "b", "w", "c"),
                                 ("a", "b", "c", "w")]):
            self.assertEqual(row_with(("a", "b", "c"), k, "w"), row)
            self.assertIs(type(row_with(("a", "b", "c"), k, "w")), tuple)


class TestAskersOwn(unittest.TestCase):
    def test_nothing_handed_in_is_changed(self):
        outcomes, hands = deepcopy(OUTCOMES), deepcopy(HANDS)
        house_of(outcomes, hands)
        self.assertEqual((outcomes, hands), (OUTCOMES, HANDS))
        wrong = deepcopy(HANDS) + [("ana", ["w"], [[0, 0]])]
        before = deepcopy(wrong)
        check_refused(self, "NoHouse", house_of, outcomes, wrong)
        self.assertEqual((outcomes, wrong), (OUTCOMES, before))

    def test_a_house_stays_when_its_lists_are_changed(self):
        outcomes, hands = deepcopy(OUTCOMES), deepcopy(HANDS)
        made = house_of(outcomes, hands)
        outcomes.append("lake")
        outcomes[0] = "hill"
        for hand in hands:
            hand[1].reverse()
            hand[2][0][0] = 99
            hand[2][1].clear()
            hand[2].append([0, 0])
        hands.pop()
        self.assertEqual(made, HOUSE)

    def test_told_rows_may_be_changed(self):
        one, other = rows_of(HOUSE), rows_of(HOUSE)
        before = list(other)
        one.clear()
        self.assertEqual(other, before)
        self.assertEqual(rows_of(HOUSE), before)
        for k in range(2):
            one, other = others_of(HOUSE, k), others_of(HOUSE, k)
            before = list(other)
            one.append(("more",))
            self.assertEqual(other, before)
            self.assertEqual(others_of(HOUSE, k), before)
        self.assertIsNot(others_of(TestRows.ONE, 0), others_of(TestRows.ONE, 0))


if __name__ == "__main__":
    unittest.main()
