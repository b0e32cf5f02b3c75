"""The census: all minimal rings of a length up to relabelings, and their levels."""

from ringleast.checks import is_integer_value
from ringleast.errors import BadSize, TooLarge
from ringleast.levels import canonical_row, in_row_order, level
from ringleast.limits import MAX_CENSUS_THREE, MAX_CENSUS_TWO, MAX_LEVEL_RANK
from ringleast.minimal import is_minimal
from ringleast.rings import is_ring
from ringleast.words import check_rank, letters


def check_size(rank, size):
    """Raises BadSize if `size` is not an integer of at least 1, or TooLarge if there is no census of this size."""
    if not is_integer_value(size) or size < 1:
        raise BadSize("a size is an integer of at least 1")
    if rank > MAX_LEVEL_RANK:
        raise TooLarge(MAX_LEVEL_RANK)
    limit = MAX_CENSUS_TWO if rank == 2 else MAX_CENSUS_THREE
    if size > limit:
        raise TooLarge(limit)


def words_from_a(rank, size):
    """Returns a list of the words of this length, at least 1, that begin with a."""
    found = ["a"]
    for _ in range(size - 1):
        found = [word + x for word in found for x in letters(rank) if x != word[-1].swapcase()]
    return found


def least_rings(rank, size):
    """Returns the rings x of this length for which (x,) is minimal and its own canonical row, in word order."""
    check_rank(rank)
    check_size(rank, size)
    # A canonical row begins with a, because a relabeling takes any letter to a.
    rows = [(word,) for word in words_from_a(rank, size) if is_ring(rank, word)]
    kept = [row for row in rows if canonical_row(rank, row)[1] == row and is_minimal(rank, row)]
    return tuple([row[0] for row in in_row_order(kept)])


def orbits(rank, size):
    """Returns the levels of the rows of the least rings of this length, ascending by their first rows."""
    found = []
    seen = {}
    for ring in least_rings(rank, size):
        if (ring,) not in seen:
            rows = level(rank, (ring,))
            found.append(rows)
            for row in rows:
                seen[row] = True
    return tuple(found)
