"""The desk: a book that is told texts and answers texts."""

from linegate.books import Book
from linegate.reasons import why
from linegate.rows import read_number, read_row, shown_parts, shown_row


class Desk:
    """A desk before a book."""

    def __init__(self, width, hands, need, tries):
        self.book = Book(width, hands, need, tries)

    def say(self, text):
        """Do or tell what a text asks for, and answer it."""
        if text == "back":
            self.book.take_back()
            return "ok"
        if text == "book":
            return "\n".join([shown_row(row) for row in self.book.rows()])
        if text in ("line", "laid", "waiting", "wanted", "sheet"):
            # A text without signs is the book's alone; the others say none.
            return shown_state(self.book.gate, text) or "none"
        if text.startswith("why "):
            return shown_reason(why(self.book.gate, read_number(text[4:])))
        told = self.book.do(read_row(text))
        return "ok" if told is None else str(told)


def shown_state(gate, name):
    """What a gate tells under a name, as a text; without signs where there is nothing."""
    if name == "line":
        return shown_parts(gate.line())
    if name == "laid":
        return shown_parts(gate.laid())
    if name == "waiting":
        return shown_parts(gate.waiting())
    if name == "wanted":
        return "; ".join([shown_parts(look) for look in gate.wanted()])
    return " ".join([f"{slot}={value}" for slot, value in gate.sheet()])


def shown_reason(reason):
    """The text of why a change stands where it does."""
    if reason[0] == "out":
        return "out " + shown_ground(reason[1])
    if reason[0] == "leans":
        return "leans " + shown_parts(reason[1])
    return shown_parts(reason)


def shown_ground(ground):
    """The text of the ground on which a change is out."""
    if ground[0] == "look":
        return ground[3] + " " + shown_parts(ground[2])
    return shown_parts(ground)
