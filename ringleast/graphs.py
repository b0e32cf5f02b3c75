"""The graph of a row: edges, degrees, cuts and components."""

from ringleast.checks import check_letter, check_row, check_side
from ringleast.steps import check_step
from ringleast.words import check_rank, letters


def row_edges(row):
    """Returns a list of (edge, x, z) for a row, ascending by edge."""
    found = []
    for k, ring in enumerate(row):
        following = ring[1:] + ring[0]
        for i, x in enumerate(ring):
            found.append(((k, i), x, following[i].swapcase()))
    return found


def row_degree(row, letter):
    """Returns the number of occurrences of a letter and its inverse in a row."""
    return sum([ring.count(letter) + ring.count(letter.swapcase()) for ring in row])


def row_cut(row, side):
    """Returns the number of edges of a row with exactly one end in the letter set."""
    return len([edge for edge, x, z in row_edges(row) if (x in side) != (z in side)])


def edges(rank, row):
    """Returns a tuple of (edge, x, z), ascending by edge, where x and z are the ends of the edge."""
    check_rank(rank)
    check_row(rank, row)
    return tuple(row_edges(row))


def degree(rank, row, letter):
    """Returns the degree of a letter."""
    check_rank(rank)
    check_row(rank, row)
    check_letter(rank, letter)
    return row_degree(row, letter)


def cut(rank, row, side):
    """Returns the cut of a letter set."""
    check_rank(rank)
    check_row(rank, row)
    check_side(rank, side)
    return row_cut(row, side)


def change(rank, row, step):
    """Returns the length of the result of a step minus the length of the row."""
    check_rank(rank)
    check_row(rank, row)
    check_step(rank, step)
    if step[0] == "relabel":
        return 0
    return row_cut(row, step[2]) - row_degree(row, step[1])


def components(rank, row):
    """Returns the connected components as a tuple of letter sets, ascending by first letter."""
    check_rank(rank)
    check_row(rank, row)
    nodes = letters(rank)
    part = {node: node for node in nodes}
    for _, x, z in row_edges(row):
        old = part[x]
        new = part[z]
        for node in nodes:
            if part[node] == old:
                part[node] = new
    found = []
    for first in nodes:
        together = "".join([node for node in nodes if part[node] == part[first]])
        if together not in found:
            found.append(together)
    return tuple(found)
