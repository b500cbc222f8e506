"""Changes, what they lean on, and rows of them."""

from linegate.errors import NoChange, NoFit, TooMany
from linegate.sheets import are_edits, edited_in_turn
from linegate.wholes import rising, within

MOST_CHANGES = 60
MOST_EDITS = 20
GREATEST_RANK = 9


class Changes:
    """The changes that were added, numbered from 1 on."""

    def __init__(self):
        self.entries = []

    def added(self, rank, leans, edits):
        """Add a change and tell its number."""
        # What makes no change is told ahead of the want of room.
        if not self.makes_change(rank, leans, edits):
            raise NoChange("this rank, these leans and these edits make no change")
        if self.many() >= MOST_CHANGES:
            raise TooMany("no more changes can be added")
        # Tuples all through, so that a list handed in may be changed afterwards.
        self.entries.append((rank, tuple(leans), tuple([tuple(edit) for edit in edits])))
        return self.many()

    def many(self):
        """How many changes there are."""
        return len(self.entries)

    def rank_of(self, number):
        """The rank of a change."""
        return self.entry_of(number)[0]

    def leans_of(self, number):
        """The changes that a change leans on itself, rising."""
        return list(self.entry_of(number)[1])

    def edits_of(self, number):
        """The edits of a change."""
        return list(self.entry_of(number)[2])

    def over(self, number):
        """The changes that are over a change, rising."""
        self.entry_of(number)
        # Leans go to lesser numbers alone, so one walk upwards meets all.
        met = {number: True}
        for upper in range(number + 1, self.many() + 1):
            if any([lean in met for lean in self.leans_of(upper)]):
                met[upper] = True
        return [upper for upper in range(number + 1, self.many() + 1) if upper in met]

    def under(self, number):
        """The changes that a change is over, rising."""
        self.entry_of(number)
        # Leans go to lesser numbers alone, so one walk downwards meets all.
        met = {number: True}
        for lower in range(number, 0, -1):
            if lower in met:
                for lean in self.leans_of(lower):
                    met[lean] = True
        return [lower for lower in range(1, number) if lower in met]

    def copied(self):
        """Other changes that are like these."""
        other = Changes()
        other.entries.extend(self.entries)
        return other

    def has(self, number):
        """Whether a number is a change's."""
        return within(number, 1, self.many())

    def entry_of(self, number):
        """The rank, the leans and the edits of a change, as they are kept."""
        if not self.has(number):
            raise NoChange(f"no change has the number {number}")
        return self.entries[number - 1]

    def makes_change(self, rank, leans, edits):
        """Whether these would make the next change."""
        if not within(rank, 0, GREATEST_RANK):
            return False
        if not all([self.has(lean) for lean in leans]) or not rising(leans):
            return False
        return len(edits) <= MOST_EDITS and are_edits(edits)


def keeps(changes, row):
    """Whether each change of a row stands behind all that it leans on."""
    met = {}
    for number in row:
        # A number met twice, or of no change, makes no row at all.
        if number in met or not changes.has(number):
            return False
        if not all([lean in met for lean in changes.leans_of(number)]):
            return False
        met[number] = True
    return True


def stands(changes, row):
    """Whether a row keeps and its edits fit one behind the other."""
    if not keeps(changes, row):
        return False
    try:
        sheet_of(changes, row)
    except NoFit:
        return False
    return True


def sheet_of(changes, row):
    """The sheet that a row that stands leads to from the empty one on."""
    return edited_in_turn([], [changes.edits_of(number) for number in row])
