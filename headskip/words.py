"""Reading texts word by word."""

from headskip.errors import BadText


def words_of(text):
    """The words of a text; raises BadText for what is no string."""
    if not isinstance(text, str):
        raise BadText(0, 0)
    return text.split(" ")


def word_at(words, at):
    """The word with this index; raises BadText if it is missing."""
    if at == len(words):
        raise BadText(0, at)
    return words[at]


def check_word(words, at, wanted):
    """Raises BadText unless just this word stands there."""
    if word_at(words, at) != wanted:
        raise BadText(0, at)


def check_end(words, at):
    """Raises BadText if there is a word too many."""
    if at < len(words):
        raise BadText(0, at)


def is_numeral(word):
    """Whether a word is an integer as str writes it."""
    digits = word.removeprefix("-")
    if not digits.isascii() or not digits.isdigit():
        return False
    return word == "0" or digits[0] != "0"


def is_count(word):
    """Whether a word is an integer above 0 as str writes it."""
    return is_numeral(word) and int(word) > 0


def value_at(words, at):
    """The integer, or None for `null`, that stands there."""
    word = word_at(words, at)
    if word == "null":
        return None
    if is_numeral(word):
        return int(word)
    raise BadText(0, at)


def rising_integers(words, at, most):
    """The integers that ascend from a word on, as many as may stand there, and the index behind them."""
    found = []
    while at < len(words) and len(found) < most and is_numeral(words[at]):
        number = int(words[at])
        if found and number <= found[-1]:
            break
        found.append(number)
        at += 1
    return found, at
