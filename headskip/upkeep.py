"""Rule books: what happens to the ends of a column head when values come and go, and blocks are merged and split."""

from headskip.errors import BadUpkeep
from headskip.kept_ends import SIDES, changed_end, end_among, ends_of, is_farther, joined_end, told_of_ends, touches
from headskip.tolds import Blank
from headskip.upkeep_words import RULES, is_word_of, upkeep_parts
from headskip.values import in_order, is_index, is_value
from headskip.words import check_end, words_of


class Upkeep:
    """A rule book: a word for each rule."""

    def __init__(self, *, begin="take", grow="take", touch="keep", stay="keep", leave="bound", drop="keep",
                 merge="take", split="bound"):
        told = (begin, grow, touch, stay, leave, drop, merge, split)
        for rule, word in zip(RULES, told):
            if not is_word_of(rule, word):
                raise BadUpkeep(rule)
        self.told_rules = dict(zip(RULES, told))

    @property
    def rules(self):
        """A new dict from the rules to their words."""
        return {rule: self.told_rules[rule] for rule in RULES}

    def __eq__(self, other):
        return isinstance(other, Upkeep) and self.told_rules == other.told_rules

    def __str__(self):
        return " ".join([self.told_rules[rule] for rule in RULES])

    @classmethod
    def read(cls, text):
        """The rule book with this text."""
        words = words_of(text)
        parts, behind = upkeep_parts(words, 0)
        check_end(words, behind)
        return cls(**parts)

    def come(self, told, value, values):
        """The Told of a column behind a value that came; values are those that stand there then."""
        ends = []
        for side, end in zip(SIDES, ends_of(told)):
            if touches(side, value):
                word = self.told_rules[_rule_of_coming(side, end, value)]
                end = changed_end(word, end, value, end_among(side, values))
            ends.append(end)
        return told_of_ends(ends, values) if values else None

    def gone(self, told, value, values):
        """The Told of a column behind a value that went; values are those that stand there then."""
        if not values:
            return None
        if told.low is None:
            return Blank()
        ends = []
        for side, end in zip(SIDES, ends_of(told)):
            if touches(side, value):
                rule = "leave" if value is None or value == end[0] else "drop"
                end = changed_end(self.told_rules[rule], end, None, end_among(side, values))
            ends.append(end)
        return told_of_ends(ends, values)

    def together(self, one, other, values):
        """The Told of a column of two blocks together."""
        word = self.told_rules["merge"]
        ends = []
        for side, first, second in zip(SIDES, ends_of(one), ends_of(other)):
            ends.append(end_among(side, values) if word == "look" else joined_end(word, side, first, second))
        return told_of_ends(ends, values) if values else None

    def parted(self, told, values):
        """The Told of a column of one part of a block that was split."""
        word = self.told_rules["split"]
        ends = [changed_end(word, end, None, end_among(side, values)) for side, end in zip(SIDES, ends_of(told))]
        return told_of_ends(ends, values) if values else None


class Come:
    """A deed, a paper: a value comes into a block."""

    def __init__(self, block, value):
        self.block = block
        self.value = value

    def __eq__(self, other):
        return isinstance(other, Come) and self.block == other.block and self.value == other.value


class Gone:
    """A deed, a paper: a value goes from a block."""

    def __init__(self, block, value):
        self.block = block
        self.value = value

    def __eq__(self, other):
        return isinstance(other, Gone) and self.block == other.block and self.value == other.value


class Merge:
    """A deed, a paper: the rows of block 1 come into block 0."""

    def __eq__(self, other):
        return isinstance(other, Merge)


class Split:
    """A deed, a paper: some values leave block 0 for block 1."""

    def __init__(self, part):
        self.part = part

    def __eq__(self, other):
        return isinstance(other, Split) and self.part == other.part


class Sound:
    """A rule book keeps all heads true; reaches tells whether some end is reached: a paper."""

    def __init__(self, reaches):
        self.reaches = reaches

    def __eq__(self, other):
        return isinstance(other, Sound) and self.reaches == other.reaches


class Broken:
    """Deeds behind all of which a head does not fit: a paper that is false."""

    def __init__(self, deeds):
        self.deeds = deeds

    def __bool__(self):
        return False

    def __eq__(self, other):
        return isinstance(other, Broken) and self.deeds == other.deeds


def play(upkeep, deeds):
    """The pairs of the Told, None without rows, and the ascending values of both blocks behind some deeds."""
    _check_upkeep(upkeep)
    if not isinstance(deeds, (list, tuple)):
        raise BadUpkeep("deeds")
    blocks = ((None, ()), (None, ()))
    for at, deed in enumerate(deeds):
        if not _can_be_done(deed, blocks):
            raise BadUpkeep(at)
        blocks = _behind(upkeep, deed, blocks)
    return blocks


def sound(upkeep):
    """A Sound if each Told fits its values behind all rows of deeds, otherwise a Broken."""
    _check_upkeep(upkeep)
    if _is_sound(upkeep):
        return Sound(_reaching_rule(upkeep) is not None)
    return Broken(tuple(_breaking_deeds(upkeep)))


def shows_sound(upkeep, paper):
    """Whether any value is a Sound that is right by the words of the rule book, or a Broken whose deeds break it."""
    _check_upkeep(upkeep)
    if isinstance(paper, Sound):
        reaches = _reaching_rule(upkeep) is not None
        return _is_sound(upkeep) and isinstance(paper.reaches, bool) and paper.reaches == reaches
    if not isinstance(paper, Broken) or not isinstance(paper.deeds, tuple):
        return False
    try:
        return _does_break(upkeep, paper.deeds)
    except BadUpkeep:
        return False


def _check_upkeep(upkeep):
    if not isinstance(upkeep, Upkeep):
        raise BadUpkeep("upkeep")


def _rule_of_coming(side, end, value):
    """The rule for a value that comes and touches an end."""
    if end is None:
        return "begin"
    if value == end[0]:
        return "touch"
    return "grow" if is_farther(side, value, end[0]) else "stay"


def _can_be_done(deed, blocks):
    """Whether any value is a deed with right parts that can be done to the blocks."""
    values, others = blocks[0][1], blocks[1][1]
    if isinstance(deed, Come):
        return is_index(deed.block, 2) and is_value(deed.value)
    if isinstance(deed, Gone):
        return is_index(deed.block, 2) and is_value(deed.value) and deed.value in blocks[deed.block][1]
    if isinstance(deed, Merge):
        return len(values) > 0 and len(others) > 0
    if not isinstance(deed, Split) or not isinstance(deed.part, tuple) or len(others) > 0:
        return False
    if not all([is_value(value) for value in deed.part]) or not 1 <= len(deed.part) < len(values):
        return False
    return all([deed.part.count(value) <= values.count(value) for value in deed.part])


def _behind(upkeep, deed, blocks):
    """The blocks behind a deed that can be done."""
    if isinstance(deed, Merge):
        (one, values), (other, more) = blocks
        together = in_order(values + more)
        return ((upkeep.together(one, other, together), together), (None, ()))
    if isinstance(deed, Split):
        told, values = blocks[0]
        rest, part = _without(values, deed.part), in_order(deed.part)
        return ((upkeep.parted(told, rest), rest), (upkeep.parted(told, part), part))
    told, values = blocks[deed.block]
    if isinstance(deed, Come):
        values = in_order((*values, deed.value))
        told = upkeep.come(told, deed.value, values)
    else:
        values = _without(values, (deed.value,))
        told = upkeep.gone(told, deed.value, values)
    return ((told, values), blocks[1]) if deed.block == 0 else (blocks[0], (told, values))


def _without(values, part):
    """Values without some of them, each taken out once."""
    rest = list(values)
    for value in part:
        rest.remove(value)
    return tuple(rest)


def _does_break(upkeep, deeds):
    """Whether a Told does not fit its values behind all of some deeds."""
    return any([told is not None and not told.fits(values) for told, values in play(upkeep, deeds)])


def _reaching_rule(upkeep):
    """The first rule by whose word an end is reached; None if none ever is."""
    for rule, word in upkeep.rules.items():
        if word == "look" or (word == "take" and rule != "merge"):
            return rule
    return None


def _is_sound(upkeep):
    """Whether each Told fits its values behind all rows of deeds."""
    words = upkeep.rules
    if "keep" in (words["grow"], words["merge"]):
        return False
    return _reaching_rule(upkeep) is None or "keep" not in (words["leave"], words["split"])


def _breaking_deeds(upkeep):
    """Deeds behind which a Told does not fit, for a rule book that is not sound."""
    words = upkeep.rules
    if words["merge"] == "keep":
        return [Come(0, 3), Come(1, 7), Merge()]
    if words["grow"] == "keep":
        return [Come(0, 3), Come(0, 7)]
    deeds, lost = _reaching_deeds(_reaching_rule(upkeep))
    if words["leave"] == "keep":
        return deeds + [Gone(0, value) for value in lost]
    return deeds + [Split(lost)]


def _reaching_deeds(rule):
    """Deeds behind which an end is reached by this rule, and the values that have to go then, so that it is not."""
    three = [Come(0, 3), Come(0, 5), Come(0, 7)]
    if rule == "begin":
        return [Come(0, 3), Come(0, None)], (3,)
    if rule == "grow":
        return [Come(0, 3), Come(0, 7)], (7,)
    if rule == "touch":
        return [Come(0, 3), Come(0, 3), Come(0, None)], (3, 3)
    if rule == "stay":
        return [Come(0, 3), Come(0, 7)], (3,)
    if rule == "leave":
        return [*three, Gone(0, 7)], (5,)
    if rule == "drop":
        return [*three, Gone(0, 5)], (3,)
    if rule == "merge":
        return [Come(0, 3), Come(1, 7), Merge()], (3,)
    return [*three, Split((7,))], (3,)
