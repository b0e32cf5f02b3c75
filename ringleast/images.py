"""Images of texts and rows, and the substitutions of steps.

Nothing is checked here: the callers check the parameters. Texts may have any length.
"""

from ringleast.errors import TooLong
from ringleast.limits import MAX_LENGTH
from ringleast.rings import first_rotation, row_length, without_inverse_ends
from ringleast.words import inverted, reduced

ALL_BASE_LETTERS = "abcd"


def base_letters(rank):
    """Returns the base letters of the rank as a string."""
    return ALL_BASE_LETTERS[:rank]


def image_table(images):
    """Returns a dict with the image of each letter, from the images of the base letters."""
    table = {}
    for letter, text in zip(ALL_BASE_LETTERS, images):
        table[letter] = text
        table[letter.upper()] = inverted(text)
    return table


def image_text(table, text):
    """Returns the image of a text of any length."""
    return reduced("".join([table[letter] for letter in text]))


def composed(outer, inner):
    """Returns the images of the base letters under the composition."""
    table = image_table(outer)
    return tuple([image_text(table, text) for text in inner])


def image_row(images, row):
    """Returns the row of the rings of the images of rings, which must not be empty."""
    table = image_table(images)
    texts = [without_inverse_ends(image_text(table, ring)) for ring in row]
    if row_length(texts) > MAX_LENGTH:
        raise TooLong(MAX_LENGTH)
    return tuple([first_rotation(text) for text in texts])


def move_images(rank, s, side):
    """Returns the substitution of the move ("move", s, side)."""
    images = []
    for letter in base_letters(rank):
        image = letter
        if letter != s.lower() and letter in side:
            image = image + s
        if letter != s.lower() and letter.upper() in side:
            image = s.swapcase() + image
        images.append(image)
    return tuple(images)


def step_images(rank, step):
    """Returns the substitution of a step."""
    if step[0] == "move":
        return move_images(rank, step[1], step[2])
    return tuple(step[1])


def undone_relabeling(names):
    """Returns the names of the inverse of the relabeling with these names."""
    table = {}
    for letter, name in zip(ALL_BASE_LETTERS, names):
        table[name] = letter
        table[name.swapcase()] = letter.upper()
    return "".join([table[letter] for letter in base_letters(len(names))])


def undone(step):
    """Returns a step whose substitution is the inverse of the one of the step."""
    if step[0] == "relabel":
        return "relabel", undone_relabeling(step[1])
    s = step[1]
    # A letter and its inverse are neighbours in letter order, so the new side is in letter order too.
    return "move", s.swapcase(), step[2].replace(s, s.swapcase())
