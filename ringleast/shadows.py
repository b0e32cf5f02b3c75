"""Shadows of words and substitutions: exponents, matrices, values in tables, and traces."""

from ringleast.checks import check_substitution, is_integer_value
from ringleast.errors import BadTables
from ringleast.images import base_letters
from ringleast.words import check_rank, check_word


def is_table(thing):
    """Tells whether `thing` is a table ((p, q), (u, v)) of integers with p * v - q * u = 1."""
    if not isinstance(thing, tuple) or len(thing) != 2:
        return False
    if not all([isinstance(line, tuple) and len(line) == 2 for line in thing]):
        return False
    (p, q), (u, v) = thing
    return all([is_integer_value(number) for number in (p, q, u, v)]) and p * v - q * u == 1


def check_tables(rank, tables):
    """Raises BadTables if `tables` is not a tuple with a table for each base letter of the rank."""
    if not isinstance(tables, tuple) or len(tables) != rank or not all([is_table(table) for table in tables]):
        raise BadTables("not a tuple with a table of determinant 1 for each base letter of the rank")


def word_exponents(rank, word):
    """Returns for each base letter its number of occurrences minus the one of its inverse, as a tuple."""
    return tuple([word.count(letter) - word.count(letter.upper()) for letter in base_letters(rank)])


def square_determinant(lines):
    """Returns the determinant of a matrix, given as a sequence of tuples."""
    if len(lines) == 1:
        return lines[0][0]
    result = 0
    for k, number in enumerate(lines[0]):
        part = number * square_determinant([line[:k] + line[k + 1:] for line in lines[1:]])
        result += part if k % 2 == 0 else -part
    return result


def matrix_product(one, other):
    """Returns the product of two matrices of the form of a table."""
    (p, q), (u, v) = one
    (w, x), (y, z) = other
    return (p * w + q * y, p * x + q * z), (u * w + v * y, u * x + v * z)


def word_value(rank, tables, word):
    """Returns the product of the tables of the letters of a word."""
    table_of = {}
    for letter, table in zip(base_letters(rank), tables):
        (p, q), (u, v) = table
        table_of[letter] = table
        table_of[letter.upper()] = (v, -q), (-u, p)
    result = (1, 0), (0, 1)
    for letter in word:
        result = matrix_product(result, table_of[letter])
    return result


def exponents(rank, word):
    """Returns the exponents of a word."""
    check_rank(rank)
    check_word(rank, word)
    return word_exponents(rank, word)


def matrix(rank, substitution):
    """Returns the matrix of a substitution: the tuple of the exponents of its images."""
    check_rank(rank)
    check_substitution(rank, substitution)
    return tuple([word_exponents(rank, word) for word in substitution])


def determinant(rank, substitution):
    """Returns the determinant of the matrix of a substitution."""
    return square_determinant(matrix(rank, substitution))


def value(rank, tables, word):
    """Returns the value of a word: the matrix product of the tables of its letters."""
    check_rank(rank)
    check_tables(rank, tables)
    check_word(rank, word)
    return word_value(rank, tables, word)


def trace(rank, tables, word):
    """Returns the trace of a word."""
    result = value(rank, tables, word)
    return result[0][0] + result[1][1]


def carried(rank, tables, substitution):
    """Returns the tuple of the values of the images."""
    check_rank(rank)
    check_tables(rank, tables)
    check_substitution(rank, substitution)
    return tuple([word_value(rank, tables, word) for word in substitution])
