"""The ends of a column head that a rule book keeps: the low one, the high one and the NULL mark.

An end is None, or a pair: its value (None for the NULL mark), and whether it is reached.
"""

from headskip.tolds import Blank, FullSpan, HoledSpan, OpenSpan
from headskip.values import integers_of

LOW = 0
HIGH = 1
NULL = 2
SIDES = (0, 1, 2)


def ends_of(told):
    """The three ends of a Told; there are none without rows."""
    if told is None:
        return (None, None, None)
    if told.low is None:
        return (None, None, (None, False))
    null = (None, None in told.wants) if None in told else None
    return ((told.low, told.low in told.wants), (told.high, told.high in told.wants), null)


def told_of_ends(ends, values):
    """The Told with these ends; ends that cross are told anew by the values."""
    low, high, null = ends
    if low is not None and high is not None and low[0] > high[0]:
        low, high = end_among(LOW, values), end_among(HIGH, values)
    if low is None or high is None:
        return Blank()
    span = (low[0], high[0], low[1], high[1])
    if null is None:
        return FullSpan(*span)
    return HoledSpan(*span) if null[1] else OpenSpan(*span)


def end_among(side, values):
    """The end that some values tell: the one farthest out, reached; None without one."""
    if side == NULL:
        return (None, True) if None in values else None
    numbers = sorted(set(integers_of(values)))
    if not numbers:
        return None
    return (numbers[0], True) if side == LOW else (numbers[-1], True)


def is_farther(side, value, other):
    """Whether an integer lies farther out than another one, at the low or at the high end."""
    return value < other if side == LOW else value > other


def touches(side, value):
    """Whether a value can touch this end: integers the low and the high one, NULL the NULL mark."""
    return (value is None) == (side == NULL)


def changed_end(word, end, value, told_anew):
    """The end behind a rule with this word: what it was, the value that came, or what the values tell anew."""
    if word == "look":
        return told_anew
    if word == "take":
        return (value, True)
    if word == "stretch":
        return (value, False)
    if word == "bound" and end is not None:
        return (end[0], False)
    return end


def joined_end(word, side, one, other):
    """The end of two blocks together, by the word of the rule of merging, but for look."""
    if one is None or other is None:
        end = other if one is None else one
        return changed_end("bound", end, None, None) if word == "bound" else end
    if word == "keep":
        return one
    if one[0] == other[0]:
        end = (one[0], one[1] or other[1])
    else:
        end = other if is_farther(side, other[0], one[0]) else one
    return (end[0], False) if word == "bound" else end
