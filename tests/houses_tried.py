"""Houses that several tests try, and the lists that they are made of."""

LETTERS = "abcdefgh"

OUTCOMES = ["park", "road"]
HANDS = [("ana", ["hi", "lo"], [[5, 0], [-1, 2]]), ("bo", ["yes", "no", "so"], [[3, 3], [0, 1], [7, -7]])]
HOUSE = (
    ("park", "road"),
    (("ana", ("hi", "lo"), ((5, 0), (-1, 2))), ("bo", ("yes", "no", "so"), ((3, 3), (0, 1), (7, -7)))),
)


def lists_of(outcomes, sizes):
    """Lists for a house of so many outcomes, with a hand of so many words for each size."""
    names = [f"out{letter}" for letter in LETTERS[:outcomes]]
    hands = [(f"hand{LETTERS[k]}", [f"w{letter}" for letter in LETTERS[:size]],
              [[100 * k + 10 * t + place for place in range(outcomes)] for t in range(size)])
             for k, size in enumerate(sizes)]
    return names, hands


def tuples_of(outcomes, hands):
    """The house that is to be made of these lists."""
    return tuple(outcomes), tuple(
        (name, tuple(words), tuple(tuple(row) for row in worths)) for name, words, worths in hands)
