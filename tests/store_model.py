"""A store as the words of the document tell it: plain lists of rows, and the texts of the Tolds of each column."""

import copy

from headskip.errors import BadHead, BadLots, BadRow, NoBlock, NoChange, TooMany
from headskip.heads import Head
from headskip.lots import Lots
from headskip.tolds import Told
from upkeep_rules import come_text, gone_text, together_text, parted_text

DEEDS = ("put", "take", "change", "merge", "split", "look", "undo")


class Refused(Exception):
    """A deed that cannot be done; error is what the store raises."""

    def __init__(self, error):
        super().__init__()
        self.error = error


class Model:
    """Blocks: pairs of a list of rows and a list of the texts of the Tolds."""

    def __init__(self, book, names):
        self.book = book
        self.names = names
        self.blocks = []
        self.past = []

    def do(self, deed, *parts):
        """Does a deed; raises Refused."""
        if deed == "undo":
            if not self.past:
                raise Refused(NoChange())
            self.blocks = self.past.pop()
            return
        blocks = copy.deepcopy(self.blocks)
        getattr(self, deed)(blocks, *parts)
        for _, texts in blocks:
            assert None not in texts
        self.check_heads(blocks)
        self.past.append(self.blocks)
        self.blocks = blocks

    def check_heads(self, blocks):
        """A head that cannot be made: a column has more wants than there are rows."""
        for rows, texts in blocks:
            for name, text in zip(self.names, texts):
                if len(Told.read(text).wants) > len(rows):
                    raise Refused(BadHead(name))

    def column(self, rows, k):
        return [row[k] for row in rows]

    def check_place(self, blocks, at, more=0):
        if type(at) is not int or not 0 <= at < len(blocks) + more:
            raise Refused(NoBlock(at))

    def check_row(self, row, part):
        values = isinstance(row, tuple) and len(row) == len(self.names)
        if not values or not all(value is None or type(value) is int for value in row):
            raise Refused(BadRow(part))

    def check_had(self, blocks, at, row):
        self.check_place(blocks, at)
        if not any(type(row) is tuple and [(type(v), v) for v in row] == [(type(v), v) for v in other] for other in blocks[at][0]):
            raise Refused(BadRow("row"))

    def check_unlike(self, rows):
        if len(set(rows)) > 40:
            raise Refused(TooMany("pairs", 40))

    def put(self, blocks, at, row):
        self.check_place(blocks, at, 1)
        self.check_row(row, "row")
        if at == 6:
            raise Refused(TooMany("blocks", 6))
        if at == len(blocks):
            blocks.append(([], [None] * len(self.names)))
        self.come(blocks, at, row)

    def come(self, blocks, at, row):
        rows, texts = blocks[at]
        rows = [*rows, row]
        self.check_unlike(rows)
        blocks[at] = (rows, [come_text(self.book, texts[k], row[k], self.column(rows, k)) for k in range(len(row))])

    def go(self, blocks, at, row):
        rows, texts = blocks[at]
        rows = list(rows)
        rows.remove(row)
        blocks[at] = (rows, [gone_text(self.book, texts[k], row[k], self.column(rows, k)) for k in range(len(row))])

    def take(self, blocks, at, row):
        self.check_had(blocks, at, row)
        self.go(blocks, at, row)
        if not blocks[at][0]:
            del blocks[at]

    def change(self, blocks, at, row, other):
        self.check_had(blocks, at, row)
        self.check_row(other, "other")
        self.go(blocks, at, row)
        self.come(blocks, at, other)

    def merge(self, blocks, at):
        self.check_place(blocks, at)
        if at == len(blocks) - 1:
            raise Refused(NoBlock(at))
        (rows, texts), (more, others) = blocks[at:at + 2]
        rows = rows + more
        self.check_unlike(rows)
        texts = [together_text(self.book, texts[k], others[k], self.column(rows, k)) for k in range(len(texts))]
        blocks[at:at + 2] = [(rows, texts)]

    def split(self, blocks, at, lots):
        self.check_place(blocks, at)
        rows, texts = blocks[at]
        if not isinstance(lots, Lots):
            raise Refused(BadLots("lots"))
        part = [row for row, times in lots for _ in range(min(times, 50))]
        rest = list(rows)
        for row in part:
            if row not in rest:
                raise Refused(BadLots("lots"))
            rest.remove(row)
        if not part or not rest:
            raise Refused(BadLots("lots"))
        if len(blocks) == 6:
            raise Refused(TooMany("blocks", 6))
        blocks[at:at + 1] = [(some, [parted_text(self.book, text, self.column(some, k)) for k, text in enumerate(texts)])
                             for some in (rest, part)]

    def look(self, blocks, at):
        self.check_place(blocks, at)
        rows, texts = blocks[at]
        blocks[at] = (rows, [str(Told.span_of(self.column(rows, k))) for k in range(len(texts))])

    def heads(self):
        return [Head.of(len(rows), {name: Told.read(text) for name, text in zip(self.names, texts)}) for rows, texts in self.blocks]

    def contents(self):
        return [Lots.of(rows) for rows, _ in self.blocks]


def random_row(rng, names, numbers=(0, 1, 2, 5, None)):
    return tuple(rng.choice(numbers) for _ in names)


def random_deed(rng, model):
    """A deed for the store that a model tells, mostly one that can be done."""
    if not model.blocks and rng.randrange(4) == 0:
        return ("undo",)
    if not model.blocks or rng.randrange(12) == 0:
        return ("put", len(model.blocks), random_row(rng, model.names))
    at = rng.randrange(len(model.blocks))
    rows = model.blocks[at][0]
    deed = rng.choice(("put", "put", "put", "put", "take", "take", "change", "change", "merge", "split", "look", "undo"))
    if deed == "put":
        return (deed, at, random_row(rng, model.names))
    if deed == "take":
        return (deed, at, rng.choice(rows))
    if deed == "change":
        return (deed, at, rng.choice(rows), random_row(rng, model.names))
    if deed == "split":
        return (deed, at, Lots.of(rng.sample(rows, rng.randint(1, max(1, len(rows) - 1)))))
    return (deed,) if deed == "undo" else (deed, at)


def odd_deed(rng, model, odd):
    """A deed with any value in some place."""
    deed = list(random_deed(rng, model))
    if len(deed) > 1:
        deed[rng.randrange(1, len(deed))] = rng.choice(odd)
    return tuple(deed)


def line_of(deed):
    """The line of a desk for a deed."""
    words = [deed[0]]
    for part in deed[1:]:
        if isinstance(part, tuple):
            if words[-1] != deed[0] and len(words) > 2:
                words.append(";")
            words += ["null" if value is None else str(value) for value in part]
        else:
            words.append(str(part))
    return " ".join(words)
