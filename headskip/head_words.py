"""Reading the text of a head, within the words of a longer text."""

from headskip.errors import BadText
from headskip.told_words import told_parts
from headskip.values import is_name
from headskip.words import check_word, is_count, word_at


def head_parts(words, at):
    """The rows and the dict from names to parts of Tolds whose text begins at a word, and the index behind it."""
    if not is_count(word_at(words, at)):
        raise BadText(0, at)
    rows = int(words[at])
    tolds = {}
    behind = at + 1
    check_word(words, behind, ";")
    last = ""
    while behind < len(words) and words[behind] == ";":
        last = _name(words, behind + 1, last)
        parts, behind = told_parts(words, behind + 2)
        tolds[last] = parts
    return rows, tolds, behind


def _name(words, at, last):
    """The name that stands there, behind a lesser one."""
    word = word_at(words, at)
    if not is_name(word) or word <= last:
        raise BadText(0, at)
    return word
