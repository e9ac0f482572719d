"""Reading the text of a reader, within the words of a longer text."""

from headskip.errors import BadText
from headskip.words import check_word, word_at

READERS = ("in order", "open first", "most first")


def reader_word(words, at):
    """The text of the reader that begins at a word, and the index behind it."""
    for text in READERS:
        first, second = text.split(" ")
        if word_at(words, at) == first:
            check_word(words, at + 1, second)
            return text, at + 2
    raise BadText(0, at)
