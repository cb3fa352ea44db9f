"""Roads: lists of words, none twice, and the least that the turns along them come to."""

from trueword.errors import NoPays
from trueword.rings import lengthened, ring, total_of


def refuse_ring(grid):
    if ring(grid) is not None:
        raise NoPays("a ring of words leaves no payments honest")


def lesser(walk, longer):
    # The longer walk is taken only where it comes to less. So, where there is no ring, no word comes twice in it:
    # without what lies between the two it has fewer turns and comes to no more, and such a walk stands already.
    return longer if total_of(longer) < total_of(walk) else walk


def least_roads(grid, walks):
    # One walk for each word is handed in, which ends with it; no road has more turns than the grid has words but one.
    for size in range(2, len(grid) + 1):
        walks = [lesser(walk, longer) for walk, longer in zip(walks, lengthened(grid, walks))]
    return walks
