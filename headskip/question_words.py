"""Reading the text of a question, within the words of a longer text."""

from headskip.errors import BadText
from headskip.filter_words import filter_parts
from headskip.values import is_name
from headskip.words import check_word, is_count, word_at

MOST_OF_TOP = 4


def question_parts(words, at):
    """The parts of the question whose text begins at a word, and the index behind it.

    The parts are a tuple: the first word, the number, the column, and the parts of the filter; None for what it lacks.
    """
    word = word_at(words, at)
    at += 1
    number = column = None
    if word == "at":
        check_word(words, at, "least")
        number = _number(words, at + 1)
        at += 2
    elif word == "top":
        number = _number(words, at, MOST_OF_TOP)
        column = _column(words, at + 1)
        at += 2
    elif word in ("greatest", "least", "total"):
        column = _column(words, at)
        at += 1
    elif word not in ("some", "many"):
        raise BadText(0, at - 1)
    check_word(words, at, "where")
    parts, behind = filter_parts(words, at + 1)
    return (word, number, column, parts), behind


def _number(words, at, most=None):
    """The number from 1 on, up to a greatest one if there is one, that stands there."""
    if not is_count(word_at(words, at)) or (most is not None and int(words[at]) > most):
        raise BadText(0, at)
    return int(words[at])


def _column(words, at):
    if not is_name(word_at(words, at)):
        raise BadText(0, at)
    return words[at]
