"""Texts of rows, substitutions and routes, and what reads them."""

from ringleast.checks import check_row, check_substitution
from ringleast.errors import BadText
from ringleast.images import base_letters
from ringleast.rings import is_row
from ringleast.steps import check_route, is_step
from ringleast.words import check_rank, is_word

# An image that is empty would not be seen in a text.
EMPTY_IMAGE = "1"


def line_start(letter):
    """Returns what stands before the image of a letter in the text of a substitution."""
    return f"{letter} = "


def lines_of(text):
    """Returns the lines of a text, or raises BadText if it is not a string."""
    if not isinstance(text, str):
        raise BadText(0)
    return text.split("\n")


def image_in(rank, letter, line):
    """Returns the image of a base letter that a line tells, or None for an invalid line."""
    start = line_start(letter)
    if not line.startswith(start):
        return None
    text = line[len(start):]
    if text == EMPTY_IMAGE:
        return ""
    return text if text != "" and is_word(rank, text) else None


def row_text(rank, row):
    """Returns the text of a row."""
    check_rank(rank)
    check_row(rank, row)
    return " ".join(row)


def substitution_text(rank, substitution):
    """Returns the text of a substitution."""
    check_rank(rank)
    check_substitution(rank, substitution)
    base = base_letters(rank)
    return "\n".join([line_start(letter) + (word or EMPTY_IMAGE) for letter, word in zip(base, substitution)])


def route_text(rank, route):
    """Returns the text of a route."""
    check_rank(rank)
    check_route(rank, route)
    return "\n".join([" ".join(step) for step in route])


def row_in(rank, text):
    """Returns the row with this text."""
    check_rank(rank)
    lines = lines_of(text)
    row = tuple(lines[0].split(" "))
    if not is_row(rank, row):
        raise BadText(1)
    if len(lines) > 1:
        raise BadText(2)
    return row


def substitution_in(rank, text):
    """Returns the substitution with this text."""
    check_rank(rank)
    lines = lines_of(text)
    images = []
    for letter, line in zip(base_letters(rank), lines):
        word = image_in(rank, letter, line)
        if word is None:
            raise BadText(len(images) + 1)
        images.append(word)
    # Here the lines up to the last base letter are valid, so the next one is missing or one too many.
    if len(lines) != rank:
        raise BadText(len(images) + 1)
    return tuple(images)


def route_in(rank, text):
    """Returns the route with this text, as a tuple."""
    check_rank(rank)
    lines = lines_of(text)
    if text == "":
        return ()
    route = []
    for line in lines:
        step = tuple(line.split(" "))
        if not is_step(rank, step):
            raise BadText(len(route) + 1)
        route.append(step)
    return tuple(route)
