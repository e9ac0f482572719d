"""What a question asks of numbers of matches: limits, and what an answer shows of them.

Where a question asks for the least values, integers are taken as negated: then it asks for the greatest ones, too.
"""

from headskip.questions import Least, Top
from headskip.spots import Limit
from headskip.values import is_integer


def sign_of(question):
    """-1 for a question about the least values, otherwise 1."""
    return -1 if isinstance(question, Least) else 1


def limit_from(question, value):
    """The Limit of the rows with at least this integer, with its sign."""
    if sign_of(question) < 0:
        return Limit(question.asked, None, -value)
    return Limit(question.asked, value)


def shown_by(question, total):
    """What the answer shows of how many rows match; not for a sum."""
    if question.quota is None:
        return total
    if question.asked is None:
        return total >= question.quota
    return min(int(total), question.quota)


def answer_of_values(question, values):
    """The answer that tells just these integers, descending, with their sign."""
    numbers = [sign_of(question) * value for value in values]
    if isinstance(question, Top):
        return tuple(numbers)
    return numbers[0] if numbers else None


def values_of_answer(question, answer):
    """The integers that any value tells as an answer, with their sign; None if it is no answer."""
    values = answer if isinstance(question, Top) else () if answer is None else (answer,)
    if not isinstance(values, tuple) or not all([is_integer(value) for value in values]):
        return None
    return [sign_of(question) * value for value in values]


def filled_values(pairs, last, quota):
    """The integers of some pairs, each as often as told, descending, and behind them the last one (None: none).

    These are as many as the quota at the most.
    """
    values = [value for value, times in pairs for _ in range(min(int(times), quota))]
    values = sorted([int(value) for value in values], reverse=True)[:quota]
    if last is not None:
        values = values + [last] * (quota - len(values))
    return values
