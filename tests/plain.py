"""Plain computations with substitutions, steps, graphs and paths, from the words of the document."""

from functools import lru_cache
from itertools import combinations

from reference import OPPOSITE, ORDER, SETS, plain_inverse, plain_reduce, plain_ring

BASE = {2: "ab", 3: "abc", 4: "abcd"}
RANKS = (2, 3, 4)


def plain_identity(rank):
    return tuple(BASE[rank])


def plain_image(images, text):
    out = ""
    for letter in text:
        if letter.islower():
            out += images["abcd".index(letter)]
        else:
            out += plain_inverse(images["ABCD".index(letter)])
    return plain_reduce(out)


def plain_compose(outer, inner):
    return tuple(plain_image(outer, text) for text in inner)


def plain_row(images, row):
    return tuple(plain_ring(plain_image(images, ring)) for ring in row)


def row_size(row):
    return sum(len(ring) for ring in row)


def plain_substitution(rank, step):
    """The substitution of a step, letter by letter from points 11 and 12."""
    if step[0] == "relabel":
        return tuple(step[1])
    _, s, side = step
    images = []
    for x in BASE[rank]:
        text = x
        if x not in (s, OPPOSITE[s]):
            if x in side:
                text = text + s
            if OPPOSITE[x] in side:
                text = OPPOSITE[s] + text
        images.append(text)
    return tuple(images)


def plain_total(rank, route):
    images = plain_identity(rank)
    for step in route:
        images = plain_compose(plain_substitution(rank, step), images)
    return images


def undone_route(route):
    """The steps that take everything back, from the words of the document for moves."""
    back = []
    for step in reversed(route):
        if step[0] == "move":
            back.append(("move", OPPOSITE[step[1]], step[2].replace(step[1], OPPOSITE[step[1]])))
        else:
            rank = len(step[1])
            inverse = {OPPOSITE[y]: OPPOSITE[x] for x, y in zip(BASE[rank], step[1])}
            inverse.update({y: x for x, y in zip(BASE[rank], step[1])})
            back.append(("relabel", "".join(inverse[x] for x in BASE[rank])))
    return tuple(back)


@lru_cache(maxsize=None)
def all_letter_sets(rank):
    return ["".join(chosen) for n in range(2 * rank + 1) for chosen in combinations(SETS[rank], n)]


@lru_cache(maxsize=None)
def plain_sides(rank, s):
    return [side for side in all_letter_sets(rank) if s in side and OPPOSITE[s] not in side]


@lru_cache(maxsize=None)
def all_moves(rank):
    """All moves in the order of the document: by s, then by the positions of the letters of the side."""
    found = []
    for s in SETS[rank]:
        sides = sorted(plain_sides(rank, s), key=lambda side: [ORDER.index(letter) for letter in side])
        found += [("move", s, side) for side in sides]
    return found


@lru_cache(maxsize=None)
def all_relabelings(rank):
    names = [""]
    for _ in range(rank):
        names = [name + x for name in names for x in SETS[rank] if x.lower() not in name.lower()]
    return [("relabel", name) for name in names]


def all_steps(rank):
    return all_moves(rank) + all_relabelings(rank)


def plain_generates(rank, images):
    """Whether products of the images and their inverses give all words: folds the loops of the images at one node.

    Images that do so are those of an automorphism, and the other way round.
    """
    links = []
    count = 1
    for word in images:
        node = 0
        for k, letter in enumerate(word):
            after = 0 if k == len(word) - 1 else count
            count += after != 0
            links += [(node, letter, after), (after, OPPOSITE[letter], node)]
            node = after
    merged = True
    while merged:
        merged = False
        ends = {}
        for node, letter, after in links:
            other = ends.setdefault((node, letter), after)
            if other != after:
                low, high = min(other, after), max(other, after)
                links = [tuple(low if part == high else part for part in link) for link in links]
                merged = True
                break
    return all((0, letter, 0) in links for letter in BASE[rank])


def plain_sign(images):
    product = plain_image(images, "abAB")
    if product == "":
        return 0
    return {"abAB": 1, plain_ring("baBA"): -1}.get(plain_ring(product), 0)


def plain_edges(row):
    """The edges of a row as a dict: (k, i) to the pair of its ends."""
    ends = {}
    for k, ring in enumerate(row):
        for i in range(len(ring)):
            ends[k, i] = (ring[i], OPPOSITE[ring[(i + 1) % len(ring)]])
    return ends


def plain_cut(row, side):
    count = 0
    for x, z in plain_edges(row).values():
        if (x in side and z not in side) or (z in side and x not in side):
            count += 1
    return count


def plain_degree(row, letter):
    count = 0
    for x, z in plain_edges(row).values():
        count += (x == letter) + (z == letter)
    return count


def plain_components(rank, row):
    """The letter sets without an edge to other letters that contain no smaller nonempty one."""
    closed = [side for side in all_letter_sets(rank) if side and plain_cut(row, side) == 0]
    least = [side for side in closed if not any(set(other) < set(side) for other in closed)]
    return tuple(sorted(least, key=lambda side: ORDER.index(side[0])))


def plain_least_cut(rank, row, letter):
    return min(plain_cut(row, side) for side in plain_sides(rank, letter))


def is_minimal_row(rank, row):
    return all(
        plain_cut(row, side) >= plain_degree(row, s) for s in SETS[rank] for side in plain_sides(rank, s)
    )


def end_of_path(row, start, path):
    """The node to which a path leads, or None if it cannot be walked."""
    ends = plain_edges(row)
    node = start
    for edge in path:
        if edge not in ends or node not in ends[edge]:
            return None
        x, z = ends[edge]
        node = z if node == x else x
    return node
