"""Nielsen reduction: writes an automorphism as the total of a route.

The images of the base letters are replaced by products of two of them while a product is smaller. If none is,
the images generate all words only if they are the base letters or inverses, each once. A replacement never makes
the images longer in total. So no end of the route has images with more letters in total than the substitution.
"""

from ringleast.checks import letter_set
from ringleast.errors import NotInvertible
from ringleast.images import base_letters, composed, image_table, step_images, undone
from ringleast.words import inverted, letters, reduced


def first_half(word):
    """Returns the first half of a word, with its middle letter if there is one."""
    return word[:(len(word) + 1) // 2]


def size_key(word):
    """Returns what decides which of two words is smaller.

    Length alone would not do: words that have got no shorter must be replaced too, in one direction only.
    """
    return len(word), sorted([first_half(word), first_half(inverted(word))])


def first_smaller(rank, table):
    """Returns (x, s, product) for letters x and s whose images have a product smaller than the image of x, or None."""
    for x in letters(rank):
        for s in letters(rank):
            # If less than half of the image of s is deleted, the product is longer than the image of x.
            if x.lower() != s.lower() and table[x.swapcase()].startswith(first_half(table[s])):
                word = reduced(table[x] + table[s])
                if size_key(word) < size_key(table[x]):
                    return x, s, word
    return None


def replacing_step(rank, x, s):
    """Returns the move that takes x to the product of x and the inverse of s."""
    return "move", s.swapcase(), letter_set(rank, x + s.swapcase())


def closing_steps(rank, table):
    """Returns a list of at most one relabeling with the images of the table, or None if they are not single letters."""
    base = base_letters(rank)
    images = [table[letter] for letter in base]
    if sorted([word.lower() for word in images]) != list(base):
        return None
    if images == list(base):
        return []
    return [("relabel", "".join(images))]


def route_to(rank, substitution):
    """Returns a route whose total is the substitution, or None if it is not an automorphism."""
    table = image_table(substitution)
    route = []
    found = first_smaller(rank, table)
    while found is not None:
        x, s, word = found
        table[x] = word
        table[x.swapcase()] = inverted(word)
        route.append(replacing_step(rank, x, s))
        found = first_smaller(rank, table)
    last = closing_steps(rank, table)
    if last is None:
        return None
    return tuple(route + last)


def automorphism_route(rank, substitution):
    """Returns a route whose total is the substitution, or raises NotInvertible."""
    route = route_to(rank, substitution)
    if route is None:
        raise NotInvertible("the substitution is not an automorphism")
    return route


def inverse_images(rank, route):
    """Returns the images of the base letters under the inverse of the total of a route."""
    images = tuple(base_letters(rank))
    for step in reversed(route):
        images = composed(step_images(rank, undone(step)), images)
    return images
