import re
import unittest
from random import Random

from houses_tried import HOUSE, plain_rows
from rules_tried import (FOUR, KEY_HOUSE, KEYS, LONE, RULE_HOUSES, and_tried, dealt_plainly, drawn_rules,
                         nested_conditions, not_tried, or_tried, plain_conditions, says_tried, told, words_of_house,
                         written)
from samples import THINGS, check_refused, self_holder, spoiled_texts
from trueword.clauses import table_of
from trueword.rules import read_rule, shown

TEXT = "when and says ana hi not count 2 lo deal park; when or says bo so says ana lo deal road; deal park"
RULE = [
    (("and", ("says", 0, "hi"), ("not", ("count", 2, "lo"))), "park"),
    (("or", ("says", 1, "so"), ("says", 0, "lo")), "road"),
    (None, "park"),
]
CONDITION = r"\b(says ana (hi|lo)|says bo (yes|no|so)|count [1-4] (hi|lo|yes|no|so)|not C|(and|or) C C)\b"


def is_rule_of_house(text):
    """Whether the text is a rule of HOUSE, by writing C for each condition from the innermost on."""
    clauses = text.split("; ")
    if len(clauses) > 20 or any(words_in(clause) > 40 for clause in clauses):
        return False
    for clause in clauses[:-1]:
        before = None
        while clause != before:
            before = clause
            clause = re.sub(CONDITION, "C", clause)
        if not re.fullmatch("when C deal (park|road)", clause):
            return False
    return re.fullmatch("deal (park|road)", clauses[-1]) is not None


def nots(count):
    return "not " * count


def words_in(text):
    return len(text.split(" "))


class TestReadRule(unittest.TestCase):
    def check(self, house, clauses, last):
        rule = read_rule(house, written(clauses, last))
        self.assertIs(type(rule), list)
        self.assertEqual(rule, told(clauses, last))
        self.assertEqual({type(clause) for clause in rule}, {tuple})
        return rule

    def test_told_by_name(self):
        self.assertEqual(read_rule(HOUSE, TEXT), RULE)
        self.assertEqual(read_rule(HOUSE, "deal road"), [(None, "road")])
        self.assertEqual(read_rule(HOUSE, "when says bo no deal park; deal road"),
                         [(("says", 1, "no"), "park"), (None, "road")])

    def test_one_clause_alone(self):
        for house in RULE_HOUSES:
            for outcome in house[0]:
                self.check(house, [], outcome)

    def test_each_plain_condition(self):
        for house in RULE_HOUSES:
            for place, tried in enumerate(plain_conditions(house)):
                self.check(house, [(tried, house[0][place % len(house[0])])], house[0][0])

    def test_each_count(self):
        for n in (1, 2, 3, 4):
            for house in RULE_HOUSES:
                for word in words_of_house(house):
                    outcome = house[0][0]
                    rule = read_rule(house, f"when count {n} {word} deal {outcome}; deal {outcome}")
                    self.assertEqual(rule, [(("count", n, word), outcome), (None, outcome)])
                    self.assertIs(type(rule[0][0][1]), int)

    def test_nested_conditions(self):
        for house in (HOUSE, LONE):
            for tried in nested_conditions(house):
                self.check(house, [(tried, house[0][1])], house[0][0])

    def test_drawn_rules(self):
        for house, clauses, last in drawn_rules(94, 300):
            self.check(house, clauses, last)

    def test_it_deals_what_its_plain_reading_tells(self):
        for house, clauses, last in drawn_rules(95, 150):
            table = table_of(house, read_rule(house, written(clauses, last)))
            self.assertEqual(table, {row: dealt_plainly(clauses, last, row) for row in plain_rows(house)})

    def test_names_like_the_words_of_the_writing(self):
        for tried in plain_conditions(KEY_HOUSE):
            for outcome in KEYS:
                self.check(KEY_HOUSE, [(tried, outcome), (not_tried(KEY_HOUSE, tried), "deal")], outcome)
        source = Random(96)
        plain = plain_conditions(KEY_HOUSE)
        for _ in range(300):
            one, other, third = source.choice(plain), source.choice(plain), source.choice(plain)
            for tried in (and_tried(one, or_tried(other, third)), or_tried(not_tried(KEY_HOUSE, one), other),
                          and_tried(or_tried(one, other), not_tried(KEY_HOUSE, third))):
                self.check(KEY_HOUSE, [(tried, source.choice(KEYS))], source.choice(KEYS))

    def test_such_names_told_by_name(self):
        self.assertEqual(read_rule(KEY_HOUSE, "deal deal"), [(None, "deal")])
        self.assertEqual(read_rule(KEY_HOUSE, "when says says says deal says; deal when"),
                         [(("says", 0, "says"), "says"), (None, "when")])
        self.assertEqual(read_rule(KEY_HOUSE, "when not says not not deal not; deal not"),
                         [(("not", ("says", 1, "not")), "not"), (None, "not")])
        self.assertEqual(read_rule(KEY_HOUSE, "when and says says deal says deal when deal deal; deal deal"),
                         [(("and", ("says", 0, "deal"), ("says", 2, "when")), "deal"), (None, "deal")])
        self.assertEqual(read_rule(KEY_HOUSE, "when or count 1 count says count or deal or; deal and"),
                         [(("or", ("count", 1, "count"), ("says", 3, "or")), "or"), (None, "and")])

    def test_one_name_of_an_outcome_a_hand_and_a_word(self):
        self.assertEqual(read_rule(LONE, "when says ash ash deal ash; when count 1 elm deal elm; deal ash"),
                         [(("says", 0, "ash"), "ash"), (("count", 1, "elm"), "elm"), (None, "ash")])

    def test_a_word_of_one_name_in_several_hands(self):
        for k, name in enumerate(("ana", "bo", "cy", "di")):
            self.assertEqual(read_rule(FOUR, f"when says {name} hi deal elm; deal ash"),
                             [(("says", k, "hi"), "elm"), (None, "ash")])

    def test_a_clause_of_forty_words(self):
        text = f"when {nots(34)}says ana hi deal park"
        self.assertEqual(words_in(text), 40)
        rule = read_rule(HOUSE, f"{text}; deal road")
        condition = ("says", 0, "hi")
        for _ in range(34):
            condition = ("not", condition)
        self.assertEqual(rule, [(condition, "park"), (None, "road")])
        text = "when " + "and says ana hi " * 5 + "or count 3 hi " * 3 + nots(2) + "says bo no deal park"
        self.assertEqual(words_in(text), 40)
        self.assertEqual(len(read_rule(HOUSE, f"{text}; {text}; deal road")), 3)

    def test_a_clause_of_forty_one_words(self):
        text = f"when {nots(35)}says ana hi deal park"
        self.assertEqual(words_in(text), 41)
        for wrong in (f"{text}; deal road", f"deal road; {text}", f"when says ana hi deal park; {text}; deal road"):
            check_refused(self, "NoRule", read_rule, HOUSE, wrong)
        text = "when " + "and says ana hi " * 5 + "or count 3 hi " * 3 + nots(3) + "says bo no deal park"
        self.assertEqual(words_in(text), 41)
        check_refused(self, "NoRule", read_rule, HOUSE, f"{text}; deal road")

    def test_clauses_of_very_many_words(self):
        for count in (100, 1000, 100000):
            for key in ("not ", "and ", "or ", "says ", "when ", "deal "):
                check_refused(self, "NoRule", read_rule, HOUSE, f"when {key * count}says ana hi deal park; deal road")
                check_refused(self, "NoRule", read_rule, HOUSE, f"deal {key * count}road")

    def test_twenty_clauses_and_twenty_one(self):
        for count in range(1, 26):
            text = "when says ana hi deal park; " * (count - 1) + "deal road"
            if count <= 20:
                self.assertEqual(read_rule(HOUSE, text), [(("says", 0, "hi"), "park")] * (count - 1) + [(None, "road")])
            else:
                check_refused(self, "NoRule", read_rule, HOUSE, text)

    def test_twenty_clauses_of_forty_words(self):
        text = f"when {nots(34)}says ana hi deal park; " * 19 + "deal road"
        self.assertEqual(len(read_rule(HOUSE, text)), 20)
        self.assertEqual(shown(HOUSE, read_rule(HOUSE, text)), text)


class TestNoRule(unittest.TestCase):
    def refused(self, *texts, house=HOUSE):
        for text in texts:
            with self.subTest(text=text):
                check_refused(self, "NoRule", read_rule, house, text)

    def test_of_anything(self):
        self.refused(*THINGS, self_holder(), RULE, tuple(RULE), [TEXT], (TEXT,), TEXT.encode(), TEXT.split(" "),
                     {TEXT: 1}, HOUSE, iter(TEXT), bytearray(b"deal park"))

    def test_the_empty_text_and_what_is_no_clause(self):
        self.refused("", " ", "  ", ";", "; ", " ; ", "park", "when", "deal", "says ana hi", "deal; ", "\n", "\t", "ok",
                     "rule deal park", "hi", "0", "; ; ", "deal park; ; deal road")

    def test_blanks_doubled_ahead_or_behind(self):
        self.refused(" " + TEXT, TEXT + " ", "deal  park", " deal park", "deal park ", "deal\tpark", "deal\npark",
                     "deal park\n", "\ndeal park", "deal park\t", "deal\u00a0park", "deal park\u00a0", "deal park\r")
        for place, sign in enumerate(TEXT):
            if sign == " ":
                for blank in ("  ", "\t", "\n", " \n", "\u00a0", "", "_", "-"):
                    self.refused(TEXT[:place] + blank + TEXT[place + 1:])

    def test_what_parts_the_clauses(self):
        for parted in (";", " ;", " ; ", ";  ", ";;", "; ; ", ";; ", ", ", ": ", ". ", " ", "", ";\n", ";\t", "\n", "/",
                       " / ", " and "):
            self.refused(f"when says ana hi deal park{parted}deal road")
        self.refused("; deal park", "deal park;", "deal park; ", ";deal park", "deal park ;",
                     "when says ana hi; deal park",
                     "when; says ana hi deal park; deal road", "when says ana hi deal park; deal; road")

    def test_other_case(self):
        self.refused(TEXT.upper(), "Deal park", "deal Park", "DEAL park", "deal PARK",
                     "When says ana hi deal park; deal road", "when Says ana hi deal park; deal road",
                     "when says Ana hi deal park; deal road", "when says ana Hi deal park; deal road",
                     "when Not says ana hi deal park; deal road", "when count 1 Hi deal park; deal road",
                     "when Count 1 hi deal park; deal road", "when AND says ana hi says ana lo deal park; deal road",
                     "when Or says ana hi says ana lo deal park; deal road")

    def test_a_clause_that_ends_early(self):
        clause = "when and says ana hi or not count 1 lo says bo so deal park"
        self.assertEqual(len(read_rule(HOUSE, f"{clause}; deal road")), 2)
        words = clause.split(" ")
        for count in range(len(words)):
            early = " ".join(words[:count])
            self.refused(early, f"{early}; deal road", f"{clause}; {early}; deal road")
            if words[count] != "deal":
                self.refused(f"{early} deal park; deal road")
        self.refused("deal", "when says ana hi deal park; deal", "when says ana hi deal; deal park")

    def test_a_clause_that_goes_on(self):
        for more in ("park", "deal", "road", "deal road", "when", "and", "says ana hi", "deal park", "hi", "ana", ""):
            self.refused(f"deal park {more}", f"when says ana hi deal park {more}; deal road",
                         f"when says ana hi {more} deal park; deal road",
                         f"when says ana hi deal park; deal road {more}")

    def test_a_word_too_few_or_too_many_anywhere(self):
        words = "when and says ana hi or not count 1 lo says bo so deal park".split(" ")
        for place in range(len(words)):
            # Without the not it is another rule; so it is with one more of them ahead of a condition.
            if words[place] != "not":
                self.refused(" ".join(words[:place] + words[place + 1:]) + "; deal road")
            for more in ("hi", "ana", "park", "deal", "says", "count", "and", "or", "when", "1", "", "none"):
                self.refused(" ".join(words[:place] + [more] + words[place:]) + "; deal road")

    def test_counts(self):
        for count in ("0", "5", "05", "6", "9", "10", "01", "00", "04", "11", "14", "-1", "+1", "1.0", "1.", "", "one",
                      "I", "n", "N", "hi", "\u0661", "\u00b2", "1 1", "12", "a1", "1a", "1;", "0x1", "1_0"):
            self.refused(f"when count {count} hi deal park; deal road")
        for count in ("1", "2", "3", "4"):
            self.assertEqual(read_rule(HOUSE, f"when count {count} hi deal park; deal road")[0][0],
                             ("count", int(count), "hi"))

    def test_a_word_of_no_hand(self):
        for word in ("", "none", "h", "hii", "ana", "bo", "park", "road", "count", "1", "yess", "Hi"):
            for n in (1, 2):
                self.refused(f"when count {n} {word} deal park; deal road")
            for name in ("ana", "bo"):
                self.refused(f"when says {name} {word} deal park; deal road")

    def test_a_word_of_another_hand_behind_says(self):
        for name, words in (("ana", ("yes", "no", "so")), ("bo", ("hi", "lo"))):
            for word in words:
                self.refused(f"when says {name} {word} deal park; deal road",
                             f"when not says {name} {word} deal park; deal road")
                self.assertEqual(len(read_rule(HOUSE, f"when count 1 {word} deal park; deal road")), 2)
        self.refused("when says cy lo deal ash; deal elm", "when says ana so deal ash; deal elm", house=FOUR)

    def test_an_outcome_that_the_house_does_not_have(self):
        for outcome in ("lake", "", "par", "parks", "ana", "hi", "deal", "when", "0", "None", "Park", "park;"):
            self.refused(f"deal {outcome}", f"when says ana hi deal {outcome}; deal park",
                         f"when says ana hi deal park; deal {outcome}")

    def test_a_hand_that_the_house_does_not_have(self):
        for name in ("", "an", "anna", "cy", "hi", "park", "says", "0", "1", "Ana"):
            for word in ("hi", "lo", "yes"):
                self.refused(f"when says {name} {word} deal park; deal road")

    def test_no_last_clause(self):
        self.refused("when says ana hi deal park", "when says ana hi deal park; when says ana lo deal road",
                     "when count 1 hi deal park; when not count 1 hi deal road")

    def test_a_clause_behind_the_last_one(self):
        self.refused("deal park; deal park", "deal park; when says ana hi deal road",
                     "deal park; when says ana hi deal road; deal park",
                     "when says ana hi deal park; deal road; deal park",
                     "when says ana hi deal park; deal road; when says ana lo deal park; deal road")

    def test_no_condition_at_all(self):
        self.refused("when deal park; deal road", "when none deal park; deal road", "when not deal park; deal road",
                     "when and deal park; deal road", "when and says ana hi deal park; deal road",
                     "when or says ana hi deal park; deal road", "when count deal park; deal road",
                     "when says deal park; deal road", "when if says ana hi deal park; deal road",
                     "when ( says ana hi ) deal park; deal road",
                     "when says ana hi and says bo so deal park; deal road",
                     "when hi deal park; deal road", "when ana hi deal park; deal road",
                     "when when says ana hi deal park; deal road", "when says ana hi when deal park; deal road")

    def test_drawn_faults(self):
        seen = {True: 0, False: 0}
        signs = (" ", ";", "; ", "not ", "says ana lo ", "1", "5", "yes", "deal park", " deal", "when ", "and ", "a",
                 "\n")
        for place, text in enumerate((TEXT, "when or says bo no count 1 hi deal road; deal park", "deal road",
                                      "when not not says ana hi deal park; when count 4 so deal road; deal road")):
            for spoiled in spoiled_texts(text, 120 + place, 1500, signs):
                plain = is_rule_of_house(spoiled)
                seen[plain] += 1
                if plain:
                    self.assertEqual(shown(HOUSE, read_rule(HOUSE, spoiled)), spoiled)
                else:
                    check_refused(self, "NoRule", read_rule, HOUSE, spoiled)
        self.assertGreater(min(seen.values()), 200)

    def test_names_like_the_words_of_the_writing(self):
        self.refused("deal", "deal deal deal", "when deal deal; deal deal", "when says deal deal; deal deal",
                     "when says says deal says; deal when", "when not not not deal not; deal not",
                     "when says not says deal not; deal not", "when count 1 hi deal deal; deal deal",
                     "when and says says says deal says; deal when", "when", "when when", "says says says",
                     "when or count 1 count deal or; deal and", "deal park", house=KEY_HOUSE)


class TestShown(unittest.TestCase):
    def test_told_by_name(self):
        self.assertEqual(shown(HOUSE, RULE), TEXT)
        self.assertEqual(shown(HOUSE, [(None, "road")]), "deal road")
        self.assertEqual(shown(KEY_HOUSE, [(("not", ("says", 1, "not")), "not"), (None, "deal")]),
                         "when not says not not deal not; deal deal")

    def test_drawn_rules_are_shown_as_they_were_written(self):
        for house, clauses, last in drawn_rules(97, 300):
            text = written(clauses, last)
            self.assertIs(type(shown(house, told(clauses, last))), str)
            self.assertEqual(shown(house, told(clauses, last)), text)
            self.assertEqual(shown(house, read_rule(house, text)), text)

    def test_what_is_shown_is_read_to_the_same_rule(self):
        for house, clauses, last in drawn_rules(98, 300):
            rule = told(clauses, last)
            self.assertEqual(read_rule(house, shown(house, rule)), rule)

    def test_each_hand_by_its_name(self):
        for k, name in enumerate(("ana", "bo", "cy", "di")):
            rule = [(says_tried(FOUR, k, "hi")[1], "elm"), (None, "ash")]
            self.assertEqual(shown(FOUR, rule), f"when says {name} hi deal elm; deal ash")


class TestAskersOwn(unittest.TestCase):
    def test_nothing_handed_in_is_changed(self):
        rule = list(RULE)
        shown(HOUSE, rule)
        self.assertEqual(rule, RULE)

    def test_told_rules_may_be_changed(self):
        one, other = read_rule(HOUSE, TEXT), read_rule(HOUSE, TEXT)
        self.assertIsNot(one, other)
        one[0] = (None, "road")
        one.clear()
        self.assertEqual(other, RULE)
        self.assertEqual(read_rule(HOUSE, TEXT), RULE)


if __name__ == "__main__":
    unittest.main()
