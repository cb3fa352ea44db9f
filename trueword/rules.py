"""Rules as text: clauses that each deal an outcome where a condition holds, read and shown."""

from trueword.errors import NoRule
from trueword.houses import hands_of, name_of, names_of, outcomes_of, words_of_hand

MOST_CLAUSES = 20
MOST_CLAUSE_WORDS = 40
COUNTS = ("1", "2", "3", "4")

# What is read from a place on in the words of a clause is told as a tuple (condition, place), the place behind it.
# Words are read from the front on: which of them are names of the house hangs on what stands ahead of them.


def condition_of(told):
    return told[0]


def place_of(told):
    return told[1]


def word_at(words, place):
    if place >= len(words):
        raise NoRule("a clause ends early")
    return words[place]


def read_says(house, name, word):
    names = names_of(hands_of(house))
    if name not in names:
        raise NoRule("says is followed by a hand of the house")
    k = names.index(name)
    if word not in words_of_hand(hands_of(house)[k]):
        raise NoRule("a hand says one of its own words")
    return ("says", k, word)


def read_count(house, figure, word):
    if figure not in COUNTS:
        raise NoRule("count is followed by a figure from 1 to 4")
    if not any([word in words_of_hand(hand) for hand in hands_of(house)]):
        raise NoRule("a word of no hand can't be counted")
    return ("count", int(figure), word)


def read_condition(house, words, place):
    kind = word_at(words, place)
    if kind == "says":
        return (read_says(house, word_at(words, place + 1), word_at(words, place + 2)), place + 3)
    if kind == "count":
        return (read_count(house, word_at(words, place + 1), word_at(words, place + 2)), place + 3)
    if kind == "not":
        told = read_condition(house, words, place + 1)
        return (("not", condition_of(told)), place_of(told))
    if kind == "and" or kind == "or":
        one = read_condition(house, words, place + 1)
        other = read_condition(house, words, place_of(one))
        return ((kind, condition_of(one), condition_of(other)), place_of(other))
    raise NoRule("a condition begins with says, count, not, and, or")


def read_deal(house, words):
    if len(words) != 2 or words[0] != "deal" or words[1] not in outcomes_of(house):
        raise NoRule("a clause ends with deal and an outcome of the house")
    return words[1]


def read_clause(house, words):
    if words[0] != "when":
        raise NoRule("each clause but the last one begins with when")
    told = read_condition(house, words, 1)
    return (condition_of(told), read_deal(house, words[place_of(told):]))


def clauses_in(text):
    clauses = [clause.split(" ") for clause in text.split("; ")]
    # Held to these bounds ahead of reading, so that no condition is nested deeper than a clause has words.
    if len(clauses) > MOST_CLAUSES or max([len(words) for words in clauses]) > MOST_CLAUSE_WORDS:
        raise NoRule("a rule has at most twenty clauses of at most forty words")
    return clauses


def read_rule(house, text):
    if not isinstance(text, str):
        raise NoRule("a rule is read from a text")
    clauses = clauses_in(text)
    rule = [read_clause(house, words) for words in clauses[:-1]]
    return rule + [(None, read_deal(house, clauses[-1]))]


def condition_words(house, condition):
    kind = condition[0]
    if kind == "says":
        return [kind, name_of(hands_of(house)[condition[1]]), condition[2]]
    if kind == "count":
        return [kind, str(condition[1]), condition[2]]
    words = [kind]
    for part in condition[1:]:
        words.extend(condition_words(house, part))
    return words


def clause_text(house, condition, outcome):
    if condition is None:
        return f"deal {outcome}"
    return " ".join(["when"] + condition_words(house, condition) + ["deal", outcome])


def shown(house, rule):
    return "; ".join([clause_text(house, condition, outcome) for condition, outcome in rule])
