"""Grids: what each word is worth to say for each true word; turns, and the payments that are honest."""

MOST_WORDS = 8


def is_whole(thing):
    # True and False are ints to Python, but no whole numbers here.
    return isinstance(thing, int) and not isinstance(thing, bool)


def is_bounded(thing):
    return is_whole(thing) and abs(thing) < 10 ** 60


def is_grid_row(thing, width):
    if not isinstance(thing, list) or len(thing) != width:
        return False
    return all([is_bounded(worth) for worth in thing])


def is_grid(thing):
    if not isinstance(thing, list) or not 1 <= len(thing) <= MOST_WORDS:
        return False
    return all([is_grid_row(row, len(thing)) for row in thing])


def turn(grid, s, t):
    return grid[t][t] - grid[t][s]


def along(grid, words):
    return sum([turn(grid, s, t) for s, t in zip(words, words[1:])])


def round_sum(grid, words):
    return along(grid, words) + turn(grid, words[-1], words[0])


def gain(grid, pays, t, s):
    # What one whose true word is t has more by saying s: above 0 just where the payments ask more than the turn.
    return pays[t] - pays[s] - turn(grid, s, t)


def first_gain(grid, pays):
    for t in range(len(grid)):
        for s in range(len(grid)):
            more = gain(grid, pays, t, s)
            if more > 0:
                return (t, s, more)
    return None


def beyond(grid, pays):
    return [t for t in range(len(grid)) if pays[t] > grid[t][t]]
