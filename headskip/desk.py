"""Desks: a store that lines of text change and ask."""

from headskip.errors import BadBook, NoBlock
from headskip.line_words import line_parts
from headskip.needs import fewest, musts
from headskip.readers import course
from headskip.settled import settle
from headskip.store import Store, store_of
from headskip.texts import store_text


def put_line(store, at, row):
    """Carries out `put`."""
    store.put(at, row)
    return "ok"


def take_line(store, at, row):
    """Carries out `take`."""
    store.take(at, row)
    return "ok"


def change_line(store, at, row, other):
    """Carries out `change`."""
    store.change(at, row, other)
    return "ok"


def merge_line(store, at):
    """Carries out `merge`."""
    store.merge(at)
    return "ok"


def split_line(store, at, lots):
    """Carries out `split`."""
    store.split(at, lots)
    return "ok"


def look_line(store, at):
    """Carries out `look`."""
    store.look(at)
    return "ok"


def undo_line(store):
    """Carries out `undo`."""
    store.undo()
    return "ok"


def show_line(store):
    """The text of the store in one row."""
    return store_text(store).replace("\n", " / ")


def head_line(store, at):
    """The text of a head."""
    _check_place(store, at)
    return str(store.blocks[at].head)


def ask_line(store, question):
    """The answer on the table."""
    _check_place(store, 0)
    return _answer_text(question(store.shelf, store.table))


def settle_line(store, places, question):
    """Whether the question is settled behind reading these blocks."""
    for at in places:
        _check_place(store, at)
    _check_place(store, 0)
    found = settle(store.shelf, question, {at: store.blocks[at].lots for at in places})
    return f"settled {_answer_text(found.answer)}" if found else f"open {found.at}"


def musts_line(store, question):
    """The musts of the table."""
    _check_place(store, 0)
    return _numbers_text(musts(store.shelf, question, store.table))


def fewest_line(store, question):
    """How many blocks a least settling set has."""
    _check_place(store, 0)
    found = fewest(store.shelf, question, store.table)
    return str(len(found.reads))


def course_line(store, reader, question):
    """What a reader reads."""
    _check_place(store, 0)
    shelf, table = store.shelf, store.table
    reads = list(course(reader, shelf, question, table))
    return _numbers_text(reads)


LINES = {
    "put": put_line,
    "take": take_line,
    "change": change_line,
    "merge": merge_line,
    "split": split_line,
    "look": look_line,
    "undo": undo_line,
    "show": show_line,
    "head": head_line,
    "ask": ask_line,
    "settle": settle_line,
    "musts": musts_line,
    "fewest": fewest_line,
    "course": course_line,
}


class Desk:
    """A store of its own that lines change and ask."""

    def __init__(self, store):
        if not isinstance(store, Store):
            raise BadBook("store")
        self.store = store_of(store.upkeep, store.names, store.blocks)

    def ask(self, line):
        """Carries out a line, any value, and returns its answer."""
        word, parts = line_parts(line, len(self.store.names))
        carry_out = LINES[word]
        return carry_out(self.store, *parts)

    def __call__(self, line):
        return self.ask(line)

    def run(self, *lines):
        """The list of the answers; behind an error all is as it was ahead of the call."""
        with self.store.trial() as trial:
            answers = [self.ask(line) for line in lines]
            trial.keep()
        return answers

    def __len__(self):
        return len(self.store)


def _check_place(store, at):
    if at >= len(store.blocks):
        raise NoBlock(at)


def _answer_text(answer):
    """The words of an answer to a question."""
    if answer is None:
        return "none"
    if isinstance(answer, bool):
        return "yes" if answer else "no"
    return _numbers_text(answer) if isinstance(answer, tuple) else str(answer)


def _numbers_text(numbers):
    return " ".join([str(number) for number in numbers]) if numbers else "-"
