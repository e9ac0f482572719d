"""The rules of a rule book and their words, and reading its text, within the words of a longer text."""

from headskip.errors import BadText
from headskip.words import word_at

RULES = ("begin", "grow", "touch", "stay", "leave", "drop", "merge", "split")
WORDS = {
    "begin": ("take", "stretch", "look"),
    "grow": ("take", "stretch", "keep", "look"),
    "touch": ("keep", "take", "bound", "look"),
    "stay": ("keep", "bound", "look"),
    "leave": ("keep", "bound", "look"),
    "drop": ("keep", "bound", "look"),
    "merge": ("take", "bound", "keep", "look"),
    "split": ("keep", "bound", "look"),
}


def is_word_of(rule, word):
    """Whether any value is a word of a rule."""
    return isinstance(word, str) and word in WORDS[rule]


def upkeep_parts(words, at):
    """The dict from rules to words of the rule book whose text begins at a word, and the index behind it."""
    found = {}
    for rule in RULES:
        word = word_at(words, at)
        if not is_word_of(rule, word):
            raise BadText(0, at)
        found[rule] = word
        at += 1
    return found, at
