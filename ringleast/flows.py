"""Flows: least cuts, paths without common edges, and certificates of minimal rows."""

from ringleast.checks import check_letter, check_row, letter_set
from ringleast.errors import NotMinimal
from ringleast.graphs import row_cut, row_degree, row_edges
from ringleast.images import base_letters
from ringleast.words import check_rank, letters


def node_links(rank, row):
    """Returns a dict: for each node a list of (edge, node at the other end, way), where way is 1 or -1."""
    links = {node: [] for node in letters(rank)}
    for edge, x, z in row_edges(row):
        links[x].append((edge, z, 1))
        links[z].append((edge, x, -1))
    return links


def reached_from(links, ways, start, goal):
    """Searches for a path from start that can be added to a flow.

    Returns a dict: for each node that was reached, the (node, edge, way) by which it was reached first.
    An edge that the flow uses can be walked only against its way, which removes it from the flow.
    """
    reached = {start: None}
    queue = [start]
    at = 0
    while at < len(queue) and goal not in reached:
        node = queue[at]
        at += 1
        for edge, other, way in links[node]:
            if other not in reached and ways[edge] != way:
                reached[other] = (node, edge, way)
                queue.append(other)
    return reached


def greatest_flow(rank, row, letter):
    """Returns (links, ways, reached) with as many paths as possible from a letter to its inverse.

    `ways` tells for each edge in which way the flow uses it, or 0. `reached` is what a further search reaches.
    """
    links = node_links(rank, row)
    ways = {edge: 0 for edge, x, z in row_edges(row)}
    goal = letter.swapcase()
    reached = reached_from(links, ways, letter, goal)
    while goal in reached:
        node = goal
        while node != letter:
            node, edge, way = reached[node]
            ways[edge] += way
        reached = reached_from(links, ways, letter, goal)
    return links, ways, reached


def next_link(links, ways, node):
    """Returns the first (edge, other node, way) at the node that the flow uses in this way."""
    return [link for link in links[node] if ways[link[0]] == link[2]][0]


def paths_of_flow(rank, row, letter):
    """Returns as many paths as possible from a letter to its inverse, as a list."""
    links, ways, reached = greatest_flow(rank, row, letter)
    found = []
    for _ in range(row_cut(row, letter_set(rank, reached))):
        path = []
        node = letter
        while node != letter.swapcase():
            edge, node, _ = next_link(links, ways, node)
            # What is left is still a flow, so the walk ends nowhere but at the inverse.
            ways[edge] = 0
            path.append(edge)
        found.append(tuple(path))
    return found


def smallest_cut(rank, row, letter):
    """Returns (size, side) for a smallest cut that separates a letter from its inverse."""
    reached = greatest_flow(rank, row, letter)[2]
    side = letter_set(rank, reached)
    return row_cut(row, side), side


def least_cut(rank, row, letter):
    """Returns (size, side): the smallest cut of a letter set with the letter and not its inverse."""
    check_rank(rank)
    check_row(rank, row)
    check_letter(rank, letter)
    return smallest_cut(rank, row, letter)


def paths(rank, row, letter):
    """Returns a tuple of paths from the letter to its inverse, as many as the least cut has edges."""
    check_rank(rank)
    check_row(rank, row)
    check_letter(rank, letter)
    return tuple(paths_of_flow(rank, row, letter))


def certificate(rank, row):
    """Returns a certificate of a minimal row."""
    check_rank(rank)
    check_row(rank, row)
    for letter in base_letters(rank):
        size, side = smallest_cut(rank, row, letter)
        if size < row_degree(row, letter):
            raise NotMinimal(("move", letter, side))
    return tuple([tuple(paths_of_flow(rank, row, letter)) for letter in base_letters(rank)])


def is_edge(ends, thing):
    """Tells whether `thing` is an edge among those whose ends are given."""
    if not isinstance(thing, tuple):
        return False
    # True is equal to 1 and would be found among the edges.
    if any([not isinstance(index, int) or isinstance(index, bool) for index in thing]):
        return False
    return thing in ends


def is_path(ends, start, goal, thing):
    """Tells whether `thing` is a path from one node to another, which is not the same one."""
    if not isinstance(thing, tuple):
        return False
    node = start
    for edge in thing:
        if not is_edge(ends, edge) or node not in ends[edge]:
            return False
        x, z = ends[edge]
        node = x if node == z else z
    return node == goal


def is_flow(row, letter, thing):
    """Tells whether `thing` is a flow of a letter."""
    ends = {edge: (x, z) for edge, x, z in row_edges(row)}
    if not isinstance(thing, tuple) or len(thing) != row_degree(row, letter):
        return False
    if not all([is_path(ends, letter, letter.swapcase(), path) for path in thing]):
        return False
    used = [edge for path in thing for edge in path]
    return len(set(used)) == len(used)


def check_certificate(rank, row, thing):
    """Returns True if `thing` is a certificate of the row, otherwise False."""
    check_rank(rank)
    check_row(rank, row)
    if not isinstance(thing, tuple) or len(thing) != rank:
        return False
    return all([is_flow(row, letter, flow) for letter, flow in zip(base_letters(rank), thing)])
