"""Books: the deeds of a gate, written down as rows so that they can be done again."""

from linegate.errors import NoRow
from linegate.gate import Gate
from linegate.wholes import within


class Book:
    """A gate, and the rows of all deeds that were done on it."""

    def __init__(self, width, hands, need, tries):
        self.gate = Gate(width, hands, need, tries)
        self.written = []

    def do(self, row):
        """Do a row on the gate, write it down, and tell what the deed tells."""
        kept = all_tuples(row)
        told = done(self.gate, kept)
        # Written down only now: a refused row leaves nothing behind.
        self.written.append(kept)
        return told

    def rows(self):
        """The rows that were written down, in their order."""
        return list(self.written)

    def many(self):
        """How many rows were written down."""
        return len(self.written)

    def gate_of(self, many):
        """A new gate on which just the first so many rows were done."""
        if not within(many, 0, self.many()):
            raise NoRow("the book has not so many rows")
        numbers = self.gate.settings()
        gate = Gate(numbers[0], numbers[1], numbers[2], numbers[3])
        for row in self.written[:many]:
            done(gate, row)
        return gate

    def take_back(self):
        """Take the last row back, as if it had never been told."""
        # A deed can't be undone on a gate, so the others are done anew;
        # where there is no row, one less than none is refused.
        self.gate = self.gate_of(self.many() - 1)
        self.written.pop()


def done(gate, row):
    """Do the deed of a row on a gate, and tell what the deed tells."""
    deed = row[0]
    if deed == "ask":
        return gate.ask(row[1], row[2], row[3])
    if deed == "withdraw":
        return gate.withdraw(row[1])
    if deed == "answer":
        return gate.answer(row[1], row[2])
    if deed == "stop":
        return gate.stop()
    if deed == "go":
        return gate.go()
    # Else a row of no deed would be written down and do nothing.
    raise NoRow("this row tells no deed")


def all_tuples(row):
    """A row with tuples all through, whatever lists it was handed in with."""
    if row[0] == "ask":
        return ("ask", row[1], tuple(row[2]), tuple([tuple(edit) for edit in row[3]]))
    return tuple(row)
