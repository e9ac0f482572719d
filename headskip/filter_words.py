"""Reading the text of a filter, within the words of a longer text."""

from headskip.errors import BadText
from headskip.links import MOST_CONSTANTS
from headskip.values import is_integer, is_name
from headskip.words import check_word, is_numeral, rising_integers, word_at

SIGNS = ("<", "<=", "=")
MOST_OPEN = 7


def filter_parts(words, at, depth=0):
    """The parts of the filter whose text begins at a word, and the index behind it.

    The parts are a tuple: a sign, `in`, `null`, `not`, `and`, `or`, `always` or `never`, and what it is about.
    depth tells how many brackets are open.
    """
    if word_at(words, at) != "not":
        return _positive_parts(words, at, depth)
    parts, behind = _positive_parts(words, at + 1, depth)
    return ("not", parts), behind


def _positive_parts(words, at, depth):
    word = word_at(words, at)
    if word == "(" and depth < MOST_OPEN:
        return _joined_parts(words, at + 1, depth + 1)
    if word in ("always", "never"):
        return (word,), at + 1
    return _compared_parts(words, at)


def _joined_parts(words, at, depth):
    one, behind = filter_parts(words, at, depth)
    joint = word_at(words, behind)
    if joint not in ("and", "or"):
        raise BadText(0, behind)
    other, behind = filter_parts(words, behind + 1, depth)
    check_word(words, behind, ")")
    return (joint, one, other), behind + 1


def _compared_parts(words, at):
    one = _term(words, at)
    sign = word_at(words, at + 1)
    if sign in SIGNS:
        other = _term(words, at + 2)
        if is_integer(one) and is_integer(other):
            raise BadText(0, at + 2)
        return (sign, one, other), at + 3
    if is_name(one) and sign == "null":
        return (sign, one), at + 2
    if is_name(one) and sign == "in":
        return _among_parts(words, at + 2, one)
    raise BadText(0, at + 1)


def _among_parts(words, at, column):
    numbers, behind = rising_integers(words, at, MOST_CONSTANTS)
    if not numbers:
        raise BadText(0, at)
    return ("in", column, tuple(numbers)), behind


def _term(words, at):
    word = word_at(words, at)
    if is_name(word):
        return word
    if is_numeral(word):
        return int(word)
    raise BadText(0, at)
