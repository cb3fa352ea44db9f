"""Grids and things that several tests try, and plain reckonings over all lists of words, none twice."""

from fractions import Fraction
from itertools import permutations, product
from random import Random

from trueword import errors
from trueword.grids import along, first_gain, round_sum

BIG = 10 ** 60 - 1

REFUSALS = ("NoPays", "NoHouse", "NoMenu", "NoWeight", "NoShare", "NoRule", "NoRow", "NoStand", "NoWord")


class Loud:
    """A thing that can't be compared, measured or walked."""

    def fail(self, *rest):
        raise RuntimeError("asked")

    __eq__ = __len__ = __iter__ = __getitem__ = __bool__ = __abs__ = __lt__ = fail
    __hash__ = None


THINGS = [None, True, False, 0, 1, -1, 2.5, 1j, "", "a", "ab cd", "Ab", b"", b"a", (), ("a",), ["a"], [], [[]], [()],
          {}, {"a": 1}, set(), {"a"}, frozenset("a"), range(1), object(), str, along, Fraction(1), Loud()]


def self_holder():
    thing = []
    thing.append(thing)
    return thing


def check_refused(case, name, call, *handed):
    """The call is refused with the class of that name, and with none of the others."""
    with case.assertRaises(errors.TrueError) as caught:
        call(*handed)
    case.assertIsInstance(caught.exception, ValueError)
    kinds = [other for other in REFUSALS if isinstance(caught.exception, getattr(errors, other))]
    case.assertEqual(kinds, [name])


def all_grids(size, worths):
    for numbers in product(worths, repeat=size * size):
        yield [list(numbers[size * t:size * t + size]) for t in range(size)]


def drawn_grids(size, count, least, most):
    # A seeded source, so that each run tries the same grids.
    source = Random(1000 * size + count)
    for _ in range(count):
        yield [[source.randint(least, most) for _ in range(size)] for _ in range(size)]


def near_honest_grids(size, count, slack):
    # Turns that hang on drawn payments and a drawn slack, which is seldom below 0: so rings are few and long ones come.
    source = Random(77 * size + count)
    for _ in range(count):
        pays = [source.randint(-9, 9) for _ in range(size)]
        yield grid_of_turns(size, {
            (s, t): pays[t] - pays[s] + source.randint(-1, slack)
            for s in range(size) for t in range(size) if s != t
        })


def ringless_grids(size, count, slack):
    # As above, but the slack is never below 0, and the worths are drawn too: rounds that come to just 0 are many.
    source = Random(99 * size + count + 13 * slack)
    for _ in range(count):
        pays = [source.randint(-9, 9) for _ in range(size)]
        lowest = source.choice((-6, 12))
        worths = [lowest + source.randint(0, 18) for _ in range(size)]
        yield [[worths[t] if s == t else worths[t] - (pays[t] - pays[s] + source.randint(0, slack))
                for s in range(size)] for t in range(size)]


def mixed_grids():
    """Grids of one to eight words, with rings and without, and with rounds that come to just 0."""
    for size in range(1, 9):
        yield from drawn_grids(size, 12, -5, 5)
        yield from near_honest_grids(size, 12, 2 * size)
        for slack in (0, 1, 4):
            yield from ringless_grids(size, 12, slack)


def small_grids():
    """Grids of so few words that all roads can be tried."""
    yield from all_grids(1, range(-2, 3))
    yield from all_grids(2, range(-1, 2))
    yield from drawn_grids(3, 60, -2, 2)
    for size in (3, 4, 5):
        for slack in (0, 1, 4):
            yield from ringless_grids(size, 25, slack)
    yield from ringless_grids(6, 4, 1)


def grid_of_turns(size, turns, other=50):
    """A grid whose turn from s to t is turns[(s, t)], or other where none is told."""
    return [
        [7 * t if s == t else 7 * t - turns.get((s, t), other) for s in range(size)]
        for t in range(size)
    ]


def roads(size):
    for length in range(1, size + 1):
        for words in permutations(range(size), length):
            yield list(words)


def fewest_round_below_zero(grid):
    """How many words the shortest ring has, by trying every list of words, none twice; None without one."""
    for words in roads(len(grid)):
        if len(words) > 1 and round_sum(grid, words) < 0:
            return len(words)
    return None


def payments_by_roads(grid):
    """For each word the least that the turns along any road that ends with it come to."""
    size = len(grid)
    ending = {t: [] for t in range(size)}
    for words in roads(size):
        ending[words[-1]].append(along(grid, words))
    return [min(ending[t]) for t in range(size)]


def payments_within_by_roads(grid):
    """For each word the least that any road that ends with it comes to, from what its first word is worth."""
    ways = list(roads(len(grid)))
    return [min(grid[road[0]][road[0]] + along(grid, road) for road in ways if road[-1] == t) for t in range(len(grid))]


def honest_lists(grid, numbers):
    return [list(pays) for pays in product(numbers, repeat=len(grid)) if first_gain(grid, list(pays)) is None]


def spoiled_texts(text, seed, count, signs):
    """Texts that one to three drawn edits make of this one: some signs left out, put in, doubled or exchanged."""
    source = Random(seed)
    for _ in range(count):
        spoiled = text
        for _ in range(source.randint(1, 3)):
            place = source.randint(0, len(spoiled))
            behind = source.choice((place, place, place + 1, place + source.randint(1, 6)))
            instead = source.choice(("", source.choice(signs), spoiled[place:behind]))
            spoiled = spoiled[:place] + instead + spoiled[behind:]
        yield spoiled
