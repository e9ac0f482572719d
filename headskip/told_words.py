"""Reading the text of a column head, within the words of a longer text."""

from headskip.errors import BadText
from headskip.words import is_numeral, rising_integers, word_at

MOST_VALUES = 9


def told_parts(words, at):
    """The parts of the column head whose text begins at a word, and the index behind it.

    The parts are ("blank",), ("list", nulls, values) or ("span", nulls, low, high, low_reached, high_reached).
    """
    word = word_at(words, at)
    if word == "blank":
        return ("blank",), at + 1
    if word == "list":
        return _list_parts(words, at + 1)
    return _span_parts(words, at)


def _list_parts(words, at):
    numbers, behind = rising_integers(words, at, MOST_VALUES)
    if not numbers:
        raise BadText(0, at)
    nulls, behind = _nulls(words, behind)
    return ("list", nulls, tuple(numbers)), behind


def _span_parts(words, at):
    low, low_reached = _end(words, at)
    if word_at(words, at + 1) != "to":
        raise BadText(0, at + 1)
    high, high_reached = _end(words, at + 2)
    if high < low or (high == low and high_reached != low_reached):
        raise BadText(0, at + 2)
    nulls, behind = _nulls(words, at + 3)
    return ("span", nulls, low, high, low_reached, high_reached), behind


def _end(words, at):
    word = word_at(words, at)
    numeral = word.removeprefix("~")
    if not is_numeral(numeral):
        raise BadText(0, at)
    return int(numeral), numeral == word


def _nulls(words, at):
    if at < len(words) and words[at] in ("holed", "open"):
        return words[at], at + 1
    return "full", at
