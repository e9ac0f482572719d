"""Reading the lines of a desk: what stands behind the first word of each."""

from headskip.errors import BadLine, BadText
from headskip.lots import Lots
from headskip.lots_words import lots_parts
from headskip.question_words import question_parts
from headskip.questions import question_of_parts
from headskip.reader_words import reader_word
from headskip.readers import reader_of_word
from headskip.words import check_end, check_word, is_numeral, value_at, word_at

LONGEST_PLACE = 9
# What stands behind the first word; a semicolon and `for` stand for themselves.
FORMS = {
    "put": ("place", "row"),
    "take": ("place", "row"),
    "change": ("place", "row", ";", "row"),
    "merge": ("place",),
    "split": ("place", "lots"),
    "look": ("place",),
    "undo": (),
    "show": (),
    "head": ("place",),
    "ask": ("question",),
    "settle": ("places", "question"),
    "musts": ("question",),
    "fewest": ("question",),
    "course": ("reader", "for", "question"),
}


def line_parts(line, width):
    """The first word of any value as a line, and the tuple of what it tells behind it; rows have this width."""
    if not isinstance(line, str):
        raise BadLine(0)
    words = line.split(" ")
    if words[0] not in FORMS:
        raise BadLine(0)
    try:
        found = _parts(words, width)
    except BadText as error:
        raise BadLine(error.word) from None
    return words[0], tuple([_made(form, part) for form, part in found])


def _parts(words, width):
    """The pairs of what stands behind the first word, and its parts."""
    found = []
    at = 1
    for form in FORMS[words[0]]:
        if form in (";", "for"):
            check_word(words, at, form)
            at += 1
        else:
            part, at = _part(form, words, at, width)
            found.append((form, part))
    check_end(words, at)
    return found


def _part(form, words, at, width):
    """The part that begins at a word, and the index behind it."""
    if form == "place":
        return _place(words, at), at + 1
    if form == "places":
        return _places(words, at), at + 1
    if form == "row":
        return tuple([value_at(words, at + k) for k in range(width)]), at + width
    if form == "lots":
        return lots_parts(words, at)
    if form == "reader":
        return reader_word(words, at)
    return question_parts(words, at)


def _made(form, part):
    """What a part tells; raises what its class raises."""
    if form == "lots":
        return Lots(*part)
    if form == "reader":
        return reader_of_word(part)
    if form == "question":
        return question_of_parts(part)
    return part


def _place(words, at):
    word = word_at(words, at)
    if not _is_place(word):
        raise BadText(0, at)
    return int(word)


def _places(words, at):
    """The ascending places with commas between; `-` stands for none."""
    word = word_at(words, at)
    if word == "-":
        return ()
    parts = word.split(",")
    if not all([_is_place(part) for part in parts]):
        raise BadText(0, at)
    places = [int(part) for part in parts]
    if places != sorted(set(places)):
        raise BadText(0, at)
    return tuple(places)


def _is_place(word):
    """Whether a word is an integer from 0 on as str writes it, with not too many digits."""
    return is_numeral(word) and word[0] != "-" and len(word) <= LONGEST_PLACE
