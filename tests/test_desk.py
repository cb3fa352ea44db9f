import re
import unittest
from itertools import product
from math import prod

from desks_tried import (BEST_ROW, HOUSE_ROW, RING_ROW, RULE_ROW, answers, best_row, drawn_table_rows, few_rows,
                         house_row, houses_of_desks, say, table_row)
from houses_tried import HOUSE, OUTCOMES, TABLE, drawn_house, lists_of, plain_rows, tuples_of
from rules_tried import FOUR, KEY_HOUSE, KEYS, LONE
from samples import BIG, THINGS, check_refused, self_holder, spoiled_texts
from trueword.best import best_table
from trueword.clauses import table_of
from trueword.desk import Desk
from trueword.rules import read_rule
from trueword.texts import number_of

FIRST_WORDS = ("house", "rule", "best", "deal", "pays", "verdict", "menu")
SIXTY = "9" * 60
SHORT_NUMBERS = {str(number) for number in range(-99, 1000)}
WRONG_NUMBERS = ("", "05", "00", "-0", "+1", "-05", "-00", "--1", "-", "+", "1-", "+0", "0.5", "1.", "1e3", "0x1",
                 "1_0", "9" * 61, "-" + "9" * 61, "0" * 60, "1" + "0" * 60, "1" * 5000, "-" + "1" * 5000, "one", "hi",
                 "5;", "5,", "\u0661", "\u00b2", "\uff11", "- 1", "1\n", "\t1", "1\t", "None", "True", "5=", "=5", "/")


def is_house_row(row):
    """Whether the row makes a house, by a pattern and by counting."""
    number = "(0|-?[1-9][0-9]{0,59})"
    hand = f"[a-z]{{1,8}}( = [a-z]{{1,8}}( {number})+)+"
    if not re.fullmatch(f"house [a-z]{{1,8}}( [a-z]{{1,8}})*( / {hand})+", row):
        return False
    parts = row[len("house "):].split(" / ")
    outcomes, hands = parts[0].split(" "), [part.split(" = ") for part in parts[1:]]
    words = [[saying.split(" ")[0] for saying in hand[1:]] for hand in hands]
    worths = [len(saying.split(" ")) - 1 for hand in hands for saying in hand[1:]]
    alike = [names for names in [outcomes, [hand[0] for hand in hands]] + words if len(set(names)) < len(names)]
    return (len(outcomes) <= 8 and len(hands) <= 4 and max(map(len, words)) <= 8 and not alike
            and set(worths) == {len(outcomes)} and prod(map(len, words)) <= 256)


def is_best_row(row):
    """Whether the row tells weights and handicaps of two hands and two outcomes."""
    number = "(0|-?[1-9][0-9]{0,59})"
    return re.fullmatch(f"best [1-9][0-9]{{0,59}} [1-9][0-9]{{0,59}} / {number} {number}", row) is not None


def plain_number(text):
    """Of a text of at most three signs."""
    return text in SHORT_NUMBERS


def plain_table(house, row):
    """The table that this rule or best row puts up, by the modules."""
    first, rest = row.split(" ", 1)
    if first == "rule":
        return table_of(house, read_rule(house, rest))
    weights, handicaps = [[int(number) for number in part.split(" ")] for part in rest.split(" / ")]
    return best_table(house, weights, handicaps)


def desk_with(*rows):
    desk = Desk()
    for row in rows:
        desk.say(row)
    return desk


class DeskCase(unittest.TestCase):
    def check_answers(self, desk, house, table):
        for row, plain in answers(house, table).items():
            self.assertEqual(say(desk, row), plain, row)

    def check_refused_rows(self, rows, name, wrong):
        """Each wrong row is refused by a desk that was told the rows, which answers what it did before."""
        desk = desk_with(*rows)
        before = self.told_by(desk)
        for row in wrong:
            with self.subTest(row=row):
                check_refused(self, name, desk.say, row)
        self.assertEqual(self.told_by(desk), before)

    def told_by(self, desk):
        # Asked of a desk with or without a house and a table: so the refusals are compared, too.
        rows = [" ".join(row) for row in plain_rows(HOUSE)]
        asked = [f"{first} {row}" for first in ("deal", "pays") for row in rows]
        asked += ["verdict", "menu ana yes", "menu ana no", "menu ana so", "menu bo hi", "menu bo lo"]
        return [say(desk, row) for row in asked]


class TestAnswers(DeskCase):
    def test_told_by_name(self):
        desk = Desk()
        for row, answer in (
                ("house park road / ana = hi 5 0 = lo -1 2 / bo = yes 3 3", "ok"),
                ("rule when says ana hi deal park; deal road", "ok"),
                ("deal hi yes", "park"), ("deal lo yes", "road"), ("pays hi yes", "5 3"), ("pays lo yes", "2 3"),
                ("verdict", "payable"), ("menu ana yes", "park 5 road 2"), ("menu bo hi", "park 3"),
                ("menu bo lo", "road 3"), ("best 1 2 / 0 -4", "ok"), ("deal lo yes", "park"), ("verdict", "payable")):
            told = desk.say(row)
            self.assertIs(type(told), str)
            self.assertEqual(told, answer, row)

    def test_a_ring_with_others(self):
        desk = desk_with(HOUSE_ROW, "rule when says ana hi deal road; deal park")
        self.assertIn(desk.say("verdict"), ("ring ana yes : hi lo", "ring ana yes : lo hi"))
        desk = desk_with(HOUSE_ROW, "rule when and says ana hi says bo so deal road; deal park")
        self.assertIn(desk.say("verdict"), ("ring ana so : hi lo", "ring ana so : lo hi"))
        desk = desk_with(HOUSE_ROW, "rule when says bo so deal road; deal park")
        self.assertIn(desk.say("verdict").split(" : ")[0], ("ring bo hi",))

    def test_a_ring_without_others(self):
        desk = desk_with("house x y / a = u 1 0 = v 0 1", "rule when says a u deal y; deal x")
        self.assertIn(desk.say("verdict"), ("ring a : u v", "ring a : v u"))

    def test_a_ring_with_three_others(self):
        desk = desk_with("house x y / a = u 0 0 / b = u 0 0 = w 0 0 / c = u 1 0 = v 0 1 / d = z 0 0",
                         "rule when and says b w says c u deal y; deal x")
        self.assertIn(desk.say("verdict"), ("ring c u w z : u v", "ring c u w z : v u"))

    def test_as_the_modules_tell(self):
        seen = set()
        for house, table in few_rows():
            desk = desk_with(house_row(house), table_row(house, table))
            self.check_answers(desk, house, table)
            seen.add((len(house[1]), desk.say("verdict").split(" ")[0]))
        self.assertEqual(seen, set(product((1, 2, 3, 4), ("ring", "payable"))))

    def test_drawn_rules_and_best_rows(self):
        houses, source = houses_of_desks(101)
        for house in houses:
            desk = desk_with(house_row(house))
            for row in drawn_table_rows(source, house, 5):
                self.assertEqual(desk.say(row), "ok")
                self.check_answers(desk, house, plain_table(house, row))

    def test_the_largest_houses(self):
        houses, source = houses_of_desks(102)
        for sizes in ([8, 8, 4], [4, 4, 4, 4]):
            house = drawn_house(source, 8, sizes, -99, 99)
            desk = desk_with(house_row(house), best_row([3] * len(sizes), [0] * 8))
            table = best_table(house, [3] * len(sizes), [0] * 8)
            self.assertEqual(desk.say("verdict"), "payable")
            plain = answers(house, table)
            for row in list(plain)[::17]:
                self.assertEqual(say(desk, row), plain[row])

    def test_numbers_of_sixty_figures(self):
        desk = desk_with(f"house x y / a = u {SIXTY} -{SIXTY} = v 0 -{SIXTY}", "rule when says a u deal x; deal y")
        self.assertEqual(desk.say("pays u"), SIXTY)
        self.assertEqual(desk.say("pays v"), "-" + SIXTY)
        self.assertEqual(desk.say("menu a"), f"x {SIXTY} y -{SIXTY}")
        desk.say(f"best {SIXTY} / -{SIXTY} {SIXTY}")
        self.assertEqual(desk.say("verdict"), "payable")

    def test_prices_of_sixty_figures(self):
        desk = desk_with(f"house x y / a = u -{SIXTY} {SIXTY} = v -{SIXTY} {SIXTY}",
                         "rule when says a u deal x; deal y")
        self.assertEqual(desk.say("menu a"), f"x -{SIXTY} y {SIXTY}")
        desk = desk_with(f"house x y / a = u -{SIXTY} {SIXTY} = v 0 -{SIXTY}", "rule when says a u deal y; deal x")
        self.assertEqual(desk.say("menu a"), f"x 0 y {SIXTY}")
        desk = desk_with(f"house x y / a = u -{SIXTY} -{SIXTY} = v {SIXTY} -{SIXTY}",
                         "rule when says a u deal y; deal x")
        self.assertEqual(desk.say("pays v"), SIXTY)

    def test_names_like_the_words_of_the_writing(self):
        desk = desk_with(house_row(KEY_HOUSE),
                         "rule when says says says deal says; when says not not deal not; deal deal")
        table = table_of(KEY_HOUSE, [(("says", 0, "says"), "says"), (("says", 1, "not"), "not"), (None, "deal")])
        self.check_answers(desk, KEY_HOUSE, table)
        house = (FIRST_WORDS, (("house", FIRST_WORDS, ((0,) * 7,) * 7), ("verdict", ("menu", "pays"), ((0,) * 7,) * 2)))
        desk = desk_with(house_row(house), "rule when says house house deal house; deal verdict")
        self.assertEqual(desk.say("deal house menu"), "house")
        self.assertEqual(desk.say("deal verdict pays"), "verdict")
        self.assertEqual(desk.say("menu verdict menu"), "verdict 0")
        self.assertEqual(desk.say("menu house menu"), "house 0 verdict 0")

    def test_a_menu_in_the_order_of_outcomes(self):
        desk = desk_with("house zed yak ant / a = u 0 3 2 = v 9 1 0 = w 0 0 8",
                         "rule when says a u deal yak; when says a v deal zed; deal ant")
        self.assertEqual(desk.say("menu a"), "zed 9 yak 3 ant 8")


class TestStanding(DeskCase):
    def test_a_house_behind_a_house_leaves_no_table(self):
        for row in (HOUSE_ROW, house_row(LONE), house_row(FOUR)):
            desk = desk_with(HOUSE_ROW, RULE_ROW)
            self.assertEqual(desk.say(row), "ok")
            for question in ("deal hi yes", "pays hi yes", "verdict", "menu ana yes", "deal", "menu x"):
                check_refused(self, "NoStand", desk.say, question)
        desk = desk_with(HOUSE_ROW, RULE_ROW, house_row(LONE), "rule deal elm")
        self.assertEqual(desk.say("deal ash"), "elm")
        check_refused(self, "NoWord", desk.say, "deal hi yes")
        check_refused(self, "NoRule", desk.say, "rule deal park")

    def test_a_table_in_the_place_of_another(self):
        tables = {
            "rule deal park": {row: "park" for row in plain_rows(HOUSE)},
            "rule deal road": {row: "road" for row in plain_rows(HOUSE)},
            RULE_ROW: TABLE,
            RING_ROW: {row: "park" if row == ("lo", "no") else "road" for row in plain_rows(HOUSE)},
            BEST_ROW: best_table(HOUSE, [1, 1], [0, 0]),
            "best 1 9 / 0 -40": best_table(HOUSE, [1, 9], [0, -40]),
        }
        self.assertEqual(len({tuple(table.items()) for table in tables.values()}), 5)
        for one, other in product(tables, repeat=2):
            desk = desk_with(HOUSE_ROW, one)
            self.check_answers(desk, HOUSE, tables[one])
            self.assertEqual(desk.say(other), "ok")
            self.check_answers(desk, HOUSE, tables[other])

    def test_many_rows_in_many_orders(self):
        houses, source = houses_of_desks(103)
        desk, house, table = Desk(), None, None
        for _ in range(400):
            if house is None or source.random() < 0.15:
                house, table = source.choice(houses), None
                self.assertEqual(desk.say(house_row(house)), "ok")
            elif table is None or source.random() < 0.2:
                row = next(drawn_table_rows(source, house, 1))
                self.assertEqual(desk.say(row), "ok")
                table = plain_table(house, row)
                plain = answers(house, table)
            else:
                for row in source.sample(sorted(plain), min(4, len(plain))):
                    self.assertEqual(say(desk, row), plain[row])
            if source.random() < 0.3:
                self.assertEqual(say(desk, source.choice(("", "house", "verdict ", "Deal hi", "house x")))[0],
                                 "refused")

    def test_questions_change_nothing(self):
        desk = desk_with(HOUSE_ROW, RULE_ROW)
        for _ in range(3):
            self.check_answers(desk, HOUSE, TABLE)

    def test_two_desks_know_nothing_of_each_other(self):
        one, other = Desk(), Desk()
        one.say(HOUSE_ROW)
        check_refused(self, "NoStand", other.say, "rule deal park")
        one.say(RULE_ROW)
        other.say(house_row(LONE))
        check_refused(self, "NoStand", other.say, "verdict")
        self.check_answers(one, HOUSE, TABLE)
        other.say("rule deal ash")
        self.check_answers(one, HOUSE, TABLE)
        self.check_answers(other, LONE, {("ash",): "ash", ("elm",): "ash"})
        third = desk_with(HOUSE_ROW, "rule deal road")
        self.check_answers(one, HOUSE, TABLE)
        self.check_answers(third, HOUSE, {row: "road" for row in plain_rows(HOUSE)})
        one.say(house_row(FOUR))
        check_refused(self, "NoStand", one.say, "verdict")
        self.assertEqual(third.say("deal hi yes"), "road")

    def test_told_tables_of_modules_are_not_the_desks(self):
        desk = desk_with(HOUSE_ROW, BEST_ROW)
        before = self.told_by(desk)
        best_table(HOUSE, [1, 1], [0, 0]).clear()
        table_of(HOUSE, read_rule(HOUSE, "deal park")).clear()
        self.assertEqual(self.told_by(desk), before)


class TestNumbers(DeskCase):
    def test_each_short_text(self):
        for size in (0, 1, 2, 3):
            for signs in product("-+0123 9=", repeat=size):
                text = "".join(signs)
                if plain_number(text):
                    self.assertEqual(number_of(text), int(text))
                else:
                    self.assertIsNone(number_of(text))

    def test_of_sixty_figures_and_more(self):
        for figures in ("1" * 59, SIXTY, "1" + "0" * 59):
            self.assertEqual(number_of(figures), int(figures))
            self.assertEqual(number_of("-" + figures), -int(figures))
        for figures in ("1" * 61, "9" * 61, "0" * 61, "1" * 5000):
            self.assertIsNone(number_of(figures))
            self.assertIsNone(number_of("-" + figures))

    def test_taken(self):
        for number in ("0", "1", "9", "10", "-1", "-10", "100", "1000000", SIXTY, "-" + SIXTY, "1" + "0" * 59):
            desk = desk_with(f"house x / a = u {number}", "rule deal x")
            self.assertEqual(desk.say("pays u"), number)
            self.assertEqual(desk.say("menu a"), f"x {number}")
            self.assertEqual(desk.say(f"best 1 / {number}"), "ok")
            self.assertEqual(say(desk, f"best {number} / 0"),
                             ("refused", "NoWeight") if number[0] in "-0" else ("told", "ok"))

    def test_wrong_ones_in_houses(self):
        wrong = []
        for number in WRONG_NUMBERS:
            wrong += [f"house x y / a = u {number} 0 = v 0 0", f"house x y / a = u 0 {number} = v 0 0",
                      f"house x y / a = u 0 0 = v 0 {number}", f"house x y / a = u 0 0 / b = v {number} 0"]
        for rows in ((), (HOUSE_ROW,), (HOUSE_ROW, RULE_ROW)):
            self.check_refused_rows(rows, "NoHouse", wrong)

    def test_wrong_ones_in_best_rows(self):
        wrong = []
        for number in WRONG_NUMBERS:
            wrong += [f"best {number} 1 / 0 0", f"best 1 {number} / 0 0", f"best 1 1 / {number} 0",
                      f"best 1 1 / 0 {number}"]
        for rows in ((HOUSE_ROW,), (HOUSE_ROW, RULE_ROW)):
            self.check_refused_rows(rows, "NoWeight", wrong)


class TestHouseRows(DeskCase):
    def refused(self, *wrong):
        for rows in ((), (HOUSE_ROW,), (HOUSE_ROW, RULE_ROW), (HOUSE_ROW, RING_ROW)):
            self.check_refused_rows(rows, "NoHouse", wrong)

    def test_taken(self):
        for outcomes, sizes in ((1, [1]), (8, [8]), (2, [8, 8, 4]), (3, [4, 4, 4, 4]), (1, [1, 1, 1, 1])):
            house = tuples_of(*lists_of(outcomes, sizes))
            desk = desk_with(house_row(house), f"rule deal {house[0][-1]}")
            for row in plain_rows(house)[:40]:
                self.assertEqual(desk.say("deal " + " ".join(row)), house[0][-1])

    def test_too_few_or_too_many(self):
        self.refused("house", "house ", "house  ", "house x", "house x y", "house x /", "house x / ", "house / a = u 1",
                     "house  / a = u 1", "house x / a", "house x / a =", "house x / a = ", "house x / a = u",
                     "house x / a = u 1 =", "house x / a = u 1 = ", "house x / a = u 1 /", "house x / a = u 1 / ",
                     "house x / a = u 1 = v", "house x / a u 1", "house x / = u 1", "house x / a = 1",
                     "house x a = u 1", "house x y / a = u 1", "house x / a = u 1 2", "house x y / a = u 1 2 = v 1",
                     "house x / a = u v 1")
        nine = "a b c d e f g h i"
        self.refused(f"house {nine} / a = u 1 2 3 4 5 6 7 8 9",
                     "house x / a" + "".join(f" = {word} 0" for word in nine.split(" ")),
                     "house x" + "".join(f" / {name} = u 0" for name in nine.split(" ")[:5]))
        for sizes in ([8, 8, 5], [4, 4, 4, 5]):
            self.refused(house_row(tuples_of(*lists_of(2, sizes))))

    def test_names(self):
        for name in ("X", "Ab", "x1", "1", "a_b", "ninelettr", "\u00e9", "-", "+", "x;", "x,", ":", "a/", "/a", "a=b",
                     "=", "/", "\u0430", "x\n", "\tx", "None", "5"):
            self.refused(f"house {name} / a = u 1", f"house y {name} / a = u 1 1", f"house {name} y / a = u 1 1",
                         f"house x / {name} = u 1", f"house x / a = u 1 / {name} = u 1", f"house x / a = {name} 1",
                         f"house x / a = u 1 = {name} 1")

    def test_names_twice(self):
        self.refused("house x x / a = u 1 1", "house x / a = u 1 = u 1", "house x / a = u 1 / a = v 1",
                     "house x y x / a = u 1 1 1", "house x / a = u 1 = v 1 = u 2",
                     "house x / a = u 1 / b = u 1 / a = u 1")
        self.assertEqual(Desk().say("house a u / a = u 1 2 = a 1 2 / u = u 1 2 = a 1 2"), "ok")

    def test_blanks(self):
        row = "house x y / a = u 1 2 = v 3 4 / b = w 5 6"
        self.assertEqual(Desk().say(row), "ok")
        for place in range(len("house "), len(row)):
            if row[place] == " ":
                for blank in ("  ", "\t", "\n", "", " \n", "\u00a0", " = ", " / "):
                    self.refused(row[:place] + blank + row[place + 1:])
        self.refused(row + " ", row + "\n", "house  x y / a = u 1 2", "house x y / a = u 1 2 ", "house \tx / a = u 1")

    def test_what_parts_it(self):
        for parted in ("/", " /", "/ ", " // ", " / / ", " | ", " ; ", "; ", " ", " /  / ", " = ", " \\ "):
            self.refused(f"house x{parted}a = u 1", f"house x / a = u 1{parted}b = u 1")
        for parted in ("=", " =", "= ", " == ", " = = ", " : ", " ", " / "):
            self.refused(f"house x / a{parted}u 1", f"house x / a = u 1{parted}v 1")

    def test_drawn_faults(self):
        seen = {True: 0, False: 0}
        signs = (" ", "/", " / ", "=", " = ", "0", "5", "-", "-1 ", "a", "x ", "x y", "\n", "7 ", " 7")
        for place, row in enumerate((HOUSE_ROW, "house x / a = u 1", "house x y / a = u 1 2 = v 3 4 / b = w 5 6")):
            for spoiled in spoiled_texts(row[len("house "):], 130 + place, 1500, signs):
                self.check_drawn(f"house {spoiled}", seen)
        self.assertGreater(min(seen.values()), 200)

    def check_drawn(self, row, seen):
        plain = is_house_row(row)
        seen[plain] += 1
        desk = desk_with(HOUSE_ROW, RULE_ROW)
        if plain:
            self.assertEqual(desk.say(row), "ok")
            check_refused(self, "NoStand", desk.say, "verdict")
            self.assertEqual(desk.say(f"rule deal {row.split(' ')[1]}"), "ok")
        else:
            check_refused(self, "NoHouse", desk.say, row)
            self.assertEqual(desk.say("verdict"), "payable")

    def test_a_worth_ahead_of_the_words(self):
        self.refused("house x / a 1 = u 1", "house x / a u = u 1", "house x / a = = u 1", "house x / a = u = 1",
                     "house x = / a = u 1", "house = x / a = u 1", "house 1 / a = u 1", "house x / 1 a = u 1")


class TestTableRows(DeskCase):
    def test_rules(self):
        wrong = ["rule", "rule ", "rule  ", "rule park", "rule deal", "rule deal lake", "rule deal park ",
                 "rule  deal park", "rule deal  park", "rule deal park; deal road", "rule when says ana hi deal park",
                 "rule when says ana yes deal park; deal road", "rule when count 5 hi deal park; deal road",
                 "rule when says ana hi deal park;deal road", "rule Deal park", "rule deal park\n",
                 "rule rule deal park", "rule when " + "not " * 35 + "says ana hi deal park; deal road",
                 "rule " + "when says ana hi deal park; " * 20 + "deal road", "rule 1 1 / 0 0"]
        for rows in ((HOUSE_ROW,), (HOUSE_ROW, RULE_ROW), (HOUSE_ROW, BEST_ROW), (HOUSE_ROW, RING_ROW)):
            self.check_refused_rows(rows, "NoRule", wrong)

    def test_a_rule_as_long_as_may_be(self):
        desk = desk_with(HOUSE_ROW)
        self.assertEqual(desk.say("rule when " + "not " * 34 + "says ana hi deal park; deal road"), "ok")
        self.assertEqual(desk.say("deal hi no"), "park")
        self.assertEqual(desk.say("rule " + "when says ana hi deal park; " * 19 + "deal road"), "ok")
        self.assertEqual(desk.say("deal lo no"), "road")

    def test_best_rows(self):
        wrong = ["best", "best ", "best  ", "best /", "best / ", "best  / ", "best 1 1", "best 1 1 /", "best 1 1 / ",
                 "best / 0 0", "best  / 0 0", "best 1 1 / 0", "best 1 1 / 0 0 0", "best 1 / 0 0", "best 1 1 1 / 0 0",
                 "best 1 1 0 0", "best 1 1 / 0 0 / 0 0", "best 1 1 / 0 0 /", "best 1 1 / 0 0 / ", "best 1 1 / / 0 0",
                 "best 1 1/ 0 0", "best 1 1 /0 0", "best 1 1/0 0", "best 1  1 / 0 0", "best 1 1  / 0 0",
                 "best 1 1 /  0 0", "best 1 1 / 0  0", "best 1 1 / 0 0 ", "best  1 1 / 0 0", "best 0 1 / 0 0",
                 "best 1 0 / 0 0", "best -1 1 / 0 0", "best 1 1 // 0 0", "best 1 1 ; 0 0", "best 1 1 \\ 0 0",
                 "best 1,1 / 0,0", "best 1 1 / 0 0\n", "best \t1 1 / 0 0", "best deal park",
                 "best hi yes", "best 1\t1 / 0 0", "best 1 1\n/ 0 0", "best 1 1 /\n0 0"]
        for rows in ((HOUSE_ROW,), (HOUSE_ROW, RULE_ROW), (HOUSE_ROW, BEST_ROW), (HOUSE_ROW, RING_ROW)):
            self.check_refused_rows(rows, "NoWeight", wrong)

    def test_drawn_faults_in_best_rows(self):
        seen = {True: 0, False: 0}
        desk = desk_with(HOUSE_ROW)
        signs = (" ", "/", " / ", "0", "7", "-", "+", "x")
        for place, row in enumerate((BEST_ROW, "best 12 3 / -4 50", "best 1 2 / 0 -1")):
            for spoiled in spoiled_texts(row[len("best "):], 140 + place, 700, signs):
                plain = is_best_row(f"best {spoiled}")
                seen[plain] += 1
                self.assertEqual(say(desk, f"best {spoiled}"), ("told", "ok") if plain else ("refused", "NoWeight"))
        self.assertGreater(min(seen.values()), 100)

    def test_numbers_by_each_place(self):
        for weights, handicaps in (([1, 1], [0, 0]), ([2, 1], [0, 5]), ([1, 2], [-4, 0]), ([BIG, 1], [-BIG, BIG]),
                                   ([1, BIG], [7, -7])):
            desk = desk_with(HOUSE_ROW, best_row(weights, handicaps))
            self.check_answers(desk, HOUSE, best_table(HOUSE, weights, handicaps))
        self.assertEqual(desk_with(house_row(LONE)).say("best 3 / -1 2"), "ok")


class TestNoWord(DeskCase):
    ROWS = ((HOUSE_ROW, RULE_ROW), (HOUSE_ROW, BEST_ROW), (HOUSE_ROW, RING_ROW))

    def test_deal_and_pays(self):
        rests = ["", " ", "  ", " hi", " hi yes no", " hi yes yes", " yes hi", " hi  yes", "  hi yes", " hi yes ",
                 " hi hi", " yes yes", " Hi yes", " hi Yes", " hi\tyes", " hi yes\n", " hi,yes", " ana yes", " ana hi",
                 " park road", " hi ye", " hi yess", " hi / yes", " 0 0", " ana hi bo yes", " hi yes / 0",
                 " hi\u00a0yes"]
        for rows in self.ROWS:
            for first in ("deal", "pays"):
                self.check_refused_rows(rows, "NoWord", [first + rest for rest in rests])

    def test_menu(self):
        rests = ["", " ", "  ", " ana", " bo", " ana ", " ana hi", " ana lo", " bo yes", " ana yes no", " ana hi yes",
                 " ana  yes", "  ana yes", " ana yes ", " Ana yes", " ana Yes", " ana\tyes", " ana yes\n", " yes",
                 " yes ana", " cy yes", " hi yes", " park yes", " 0 yes", " ana bo", " ana ana", " bo hi lo", " an yes",
                 " ana ye", " menu ana yes", " ana / yes", " ana : yes", " ana\u00a0yes"]
        for rows in self.ROWS:
            self.check_refused_rows(rows, "NoWord", ["menu" + rest for rest in rests])

    def test_one_hand(self):
        rows = (house_row(LONE), "rule deal ash")
        desk = desk_with(*rows)
        self.assertEqual(desk.say("menu ash"), "ash 0")
        for row in ("menu ash ", "menu ash ash", "menu elm", "menu", "menu ", "deal", "deal ", "deal ash ash",
                    "deal ash ", "pays", "pays ", "pays ash elm", "deal ana"):
            check_refused(self, "NoWord", desk.say, row)

    def test_ahead_of_no_pays(self):
        desk = desk_with(HOUSE_ROW, RING_ROW)
        self.assertEqual(desk.say("verdict").split(" ")[0], "ring")
        for row in plain_rows(HOUSE):
            check_refused(self, "NoPays", desk.say, "pays " + " ".join(row))
        check_refused(self, "NoWord", desk.say, "pays hi")
        check_refused(self, "NoWord", desk.say, "pays hi none")
        desk = desk_with(HOUSE_ROW, "rule when says ana hi deal road; deal park")
        for word in ("yes", "no", "so"):
            check_refused(self, "NoPays", desk.say, f"menu ana {word}")
            check_refused(self, "NoWord", desk.say, f"menu ana {word} ")
        check_refused(self, "NoWord", desk.say, "menu ana")
        self.assertEqual(desk.say("menu bo hi"), "road -7")

    def test_no_pays_changes_nothing(self):
        for rows in ((HOUSE_ROW, RING_ROW), (HOUSE_ROW, "rule when says ana hi deal road; deal park")):
            self.check_refused_rows(rows, "NoPays", ["pays " + " ".join(row) for row in plain_rows(HOUSE)])


class TestNoRow(DeskCase):
    STATES = ((), (HOUSE_ROW,), (HOUSE_ROW, RULE_ROW), (HOUSE_ROW, RING_ROW), (HOUSE_ROW, BEST_ROW))

    def test_of_anything(self):
        wrong = [thing for thing in THINGS if not isinstance(thing, str)]
        wrong += [self_holder(), [HOUSE_ROW], (HOUSE_ROW,), HOUSE_ROW.encode(), b"verdict", ["verdict"], {"verdict": 1},
                  HOUSE, TABLE, OUTCOMES, bytearray(b"verdict"), Desk, Desk(), iter("verdict"), 10 ** 100]
        for rows in self.STATES:
            self.check_refused_rows(rows, "NoRow", wrong)

    def test_a_first_word_that_is_none_of_these(self):
        wrong = ["", " ", "  ", "\n", "\t", "a", "ab cd", "Ab", "ok", "help", "hous", "houses", "tables", "table x",
                 ";", "/", "when says ana hi deal park; deal road", "hi yes", "say verdict", "desk", "0", "ring",
                 "payable", "park"]
        for first in FIRST_WORDS:
            wrong += [first.upper(), first.title(), " " + first, "\t" + first, first + "\t", first + "\n", first + ":",
                      first + "s", first[:-1], first + first, "\n" + first, first + ";", first + "\thi yes",
                      "_" + first, first + "/ x", first + "\nhi yes", first + "\u00a0hi yes", first.title() + " hi yes",
                      first.upper() + " deal park", " " + first + " deal park"]
        wrong += [key for key in KEYS if key not in FIRST_WORDS]
        for rows in self.STATES:
            self.check_refused_rows(rows, "NoRow", wrong)

    def test_verdict_with_anything_behind_it(self):
        wrong = ["verdict ", "verdict  ", "verdict x", "verdict hi yes", "verdict ana yes", "verdict verdict",
                 "verdict \n", "verdict /", "verdict\n", "verdict\t", "verdict; ", " verdict", "verdict 0"]
        for rows in self.STATES:
            self.check_refused_rows(rows, "NoRow", wrong)


class TestNoStand(DeskCase):
    def test_without_a_house(self):
        wrong = ["verdict", RULE_ROW, BEST_ROW, RING_ROW]
        for first in ("rule", "best", "deal", "pays", "menu"):
            wrong += [first + rest for rest in ("", " ", "  ", " hi yes", " ana yes", " deal park", " 1 1 / 0 0", " x",
                                                "  x", " \n", " /")]
        self.check_refused_rows((), "NoStand", wrong)
        # A house that was refused does not stand.
        desk = Desk()
        check_refused(self, "NoHouse", desk.say, "house x")
        for row in wrong:
            check_refused(self, "NoStand", desk.say, row)

    def test_without_a_table(self):
        wrong = ["verdict"]
        for first in ("deal", "pays", "menu"):
            wrong += [first + rest for rest in ("", " ", "  ", " hi yes", " ana yes", " hi none", " x", "  x", " \n",
                                                " hi yes ")]
        for rows in ((HOUSE_ROW,), (HOUSE_ROW, RULE_ROW, HOUSE_ROW), (HOUSE_ROW, BEST_ROW, house_row(LONE))):
            self.check_refused_rows(rows, "NoStand", wrong)
        # A rule and a best row that were refused leave no table.
        desk = desk_with(HOUSE_ROW)
        check_refused(self, "NoRule", desk.say, "rule deal lake")
        check_refused(self, "NoWeight", desk.say, "best 1 / 0 0")
        for row in wrong:
            check_refused(self, "NoStand", desk.say, row)

    def test_a_house_row_is_told_wrong_without_a_house(self):
        for row in ("house", "house ", "house x", "house X / a = u 1"):
            check_refused(self, "NoHouse", Desk().say, row)


class TestRefusalsChangeNothing(DeskCase):
    WRONG = ("", None, 5, "verdict ", "Deal hi yes", "house", "house x", "house x y / a = u 1",
             "house park road / ana = hi 5",
             "rule", "rule deal lake", "rule when says ana hi deal road", "best", "best 1 1", "best 0 1 / 0 0",
             "best 1 1 / 0 0 0", "deal", "deal hi", "pays hi none", "menu", "menu ana", "menu ana hi", b"house")

    def test_in_each_state(self):
        houses, source = houses_of_desks(104)
        for rows in ((), (HOUSE_ROW,), (HOUSE_ROW, RULE_ROW), (HOUSE_ROW, BEST_ROW), (HOUSE_ROW, RING_ROW),
                     (HOUSE_ROW, RULE_ROW, HOUSE_ROW)):
            desk = desk_with(*rows)
            before = self.told_by(desk)
            for row in self.WRONG:
                self.assertEqual(say(desk, row)[0], "refused")
                self.assertEqual(self.told_by(desk), before)
            for row in source.sample(self.WRONG, 12):
                self.assertEqual(say(desk, row)[0], "refused")
            self.assertEqual(self.told_by(desk), before)

    def test_a_house_that_is_refused_leaves_the_table(self):
        desk = desk_with(HOUSE_ROW, RULE_ROW)
        check_refused(self, "NoHouse", desk.say, "house x / a = u 01")
        self.check_answers(desk, HOUSE, TABLE)

    def test_a_table_that_is_refused_leaves_the_one_before(self):
        desk = desk_with(HOUSE_ROW, RULE_ROW)
        check_refused(self, "NoRule", desk.say, "rule deal park; deal road")
        check_refused(self, "NoWeight", desk.say, "best 1 1 / 0 x")
        self.check_answers(desk, HOUSE, TABLE)


if __name__ == "__main__":
    unittest.main()
