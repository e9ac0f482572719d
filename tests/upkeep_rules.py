"""What a rule book does to the ends of a column head, as the words of the document tell it, and drawn deeds.

Here a Told is told by its text, and its ends by a dict: "low", "high" and "mark" to a pair of a value and whether it is
reached. An end that is none is not in the dict.
"""

import itertools

from headskip.tolds import Told
from headskip.upkeep import Come, Gone, Merge, Split, Upkeep

RULES = {
    "begin": "take stretch look", "grow": "take stretch keep look", "touch": "keep take bound look", "stay": "keep bound look",
    "leave": "keep bound look", "drop": "keep bound look", "merge": "take bound keep look", "split": "keep bound look",
}
DEFAULTS = {"begin": "take", "grow": "take", "touch": "keep", "stay": "keep", "leave": "bound", "drop": "keep", "merge": "take",
            "split": "bound"}


def all_books():
    """All rule books."""
    return [Upkeep(**dict(zip(RULES, words))) for words in itertools.product(*[words.split() for words in RULES.values()])]


def random_book(rng):
    return Upkeep(**{rule: rng.choice(RULES[rule].split()) for rule in RULES})


def is_sound_by_the_fact(book):
    words = book.rules
    if words["grow"] == "keep" or words["merge"] == "keep":
        return False
    return not reaches_by_the_fact(book) or (words["leave"] != "keep" and words["split"] != "keep")


def reaches_by_the_fact(book):
    words = book.rules
    return any(words[rule] == "take" for rule in ("begin", "grow", "touch")) or "look" in words.values()


def ends_of_text(text):
    """The ends of the Told with this text (None without rows)."""
    if text is None:
        return {}
    if text == "blank":
        return {"mark": (None, False)}
    low, _, high, *nulls = text.split()
    ends = {"low": (int(low.strip("~")), low[0] != "~"), "high": (int(high.strip("~")), high[0] != "~")}
    if nulls:
        ends["mark"] = (None, nulls == ["holed"])
    return ends


def text_of_ends(ends, values):
    if not values:
        return None
    if "low" in ends and "high" in ends and ends["low"][0] > ends["high"][0]:
        ends = {"mark": ends["mark"]} if "mark" in ends else {}
        ends.update({end: told for end, told in looked(values).items() if end != "mark"})
    if "low" not in ends or "high" not in ends:
        return "blank"
    one_reached = ends["low"][0] == ends["high"][0] and (ends["low"][1] or ends["high"][1])
    low, high = [("" if reached or one_reached else "~") + str(value) for value, reached in (ends["low"], ends["high"])]
    mark = {None: "", True: " holed", False: " open"}[ends["mark"][1] if "mark" in ends else None]
    return f"{low} to {high}{mark}"


def looked(values):
    """The ends that are told anew by some values."""
    numbers = [value for value in values if value is not None]
    ends = {"low": (min(numbers), True), "high": (max(numbers), True)} if numbers else {}
    if None in values:
        ends["mark"] = (None, True)
    return ends


def touched(value):
    return ["mark"] if value is None else ["low", "high"]


def put_end(ends, name, end):
    """Tells an end, which can be none."""
    if end is None:
        ends.pop(name, None)
    else:
        ends[name] = end


def come_text(book, text, value, values):
    words, ends = book.rules, ends_of_text(text)
    for name in touched(value):
        old = ends.get(name)
        if old is None:
            word = words["begin"]
        elif old[0] == value:
            word = words["touch"]
        elif (value > old[0]) == (name == "high"):
            word = words["grow"]
        else:
            word = words["stay"]
        new = {"keep": old, "bound": old and (old[0], False), "take": (value, True), "stretch": (value, False),
               "look": looked(values).get(name)}[word]
        put_end(ends, name, new)
    return text_of_ends(ends, values)


def gone_text(book, text, value, values):
    words, ends = book.rules, ends_of_text(text)
    if values and text == "blank":
        return "blank"
    for name in touched(value):
        old = ends.get(name)
        word = words["leave"] if name == "mark" or old[0] == value else words["drop"]
        put_end(ends, name, {"keep": old, "bound": old and (old[0], False), "look": looked(values).get(name)}[word])
    return text_of_ends(ends, values)


def together_text(book, one, other, values):
    word, found = book.rules["merge"], {}
    first, second = ends_of_text(one), ends_of_text(other)
    for name in ("low", "high", "mark"):
        told = [ends[name] for ends in (first, second) if name in ends]
        if word == "look":
            put_end(found, name, looked(values).get(name))
        elif told:
            out = told[0][0] if name == "mark" else max(value for value, _ in told) if name == "high" else min(value for value, _ in told)
            reached = any(end == (out, True) for end in told)
            found[name] = {"take": (out, reached), "bound": (out, False), "keep": told[0]}[word]
    return text_of_ends(found, values)


def parted_text(book, text, values):
    word, ends = book.rules["split"], ends_of_text(text)
    for name in ("low", "high", "mark"):
        old = ends.get(name)
        put_end(ends, name, {"keep": old, "bound": old and (old[0], False), "look": looked(values).get(name)}[word])
    return text_of_ends(ends, values)


def ordered(values):
    """Values ascending, None last."""
    return tuple(sorted(values, key=lambda value: (value is None, value)))


def played(book, deeds):
    """What play returns, Tolds as texts; the deeds can be done."""
    told, values = [None, None], [[], []]
    for deed in deeds:
        if isinstance(deed, Merge):
            values = [values[0] + values[1], []]
            told = [together_text(book, told[0], told[1], values[0]), None]
        elif isinstance(deed, Split):
            rest = list(values[0])
            for value in deed.part:
                rest.remove(value)
            values = [rest, list(deed.part)]
            told = [parted_text(book, told[0], part) for part in values]
        elif isinstance(deed, Come):
            values[deed.block].append(deed.value)
            told[deed.block] = come_text(book, told[deed.block], deed.value, values[deed.block])
        else:
            values[deed.block].remove(deed.value)
            told[deed.block] = gone_text(book, told[deed.block], deed.value, values[deed.block])
    return [(text, ordered(some)) for text, some in zip(told, values)]


def random_deeds(rng, many, numbers=(1, 2, 3, 5, None)):
    """Any deeds that can be done, one behind the other."""
    values, deeds = [[], []], []
    while len(deeds) < many:
        kind = rng.randrange(8)
        block = rng.randrange(2)
        if kind < 4:
            value = rng.choice(numbers)
            values[block].append(value)
            deeds.append(Come(block, value))
        elif kind < 6 and values[block]:
            value = rng.choice(values[block])
            values[block].remove(value)
            deeds.append(Gone(block, value))
        elif kind == 6 and values[0] and values[1]:
            values = [values[0] + values[1], []]
            deeds.append(Merge())
        elif kind == 7 and len(values[0]) > 1 and not values[1]:
            rng.shuffle(values[0])
            many_parted = rng.randint(1, len(values[0]) - 1)
            values = [values[0][many_parted:], values[0][:many_parted]]
            deeds.append(Split(tuple(values[1])))
    return deeds


def fits(text, values):
    return text is None or Told.read(text).fits(list(values))
