"""The gate: it lays changes on the line, has them looked at and lets them in."""

from linegate.changes import Changes, sheet_of
from linegate.errors import NoChange, NoLook, NoRule, TooLate
from linegate.laying import filled, free
from linegate.places import wanted_places
from linegate.sheets import unfit
from linegate.tallies import Tally, makes_tally
from linegate.wholes import within

MOST_WIDTH = 16
MOST_HANDS = 8
BAD_WORDS = ("no", "unsure")


class Gate:
    """A gate before a line; a change that is nowhere else waits."""

    def __init__(self, width, hands, need, tries):
        if not (within(width, 1, MOST_WIDTH) and within(hands, 1, MOST_HANDS) and makes_tally(need, tries)):
            raise NoRule("these four numbers make no gate")
        self.numbers = (width, hands, need, tries)
        self.known = Changes()
        self.on_line = []
        self.laid_ones = []
        self.grounds = {}
        self.tallies = {}
        self.looks = []
        self.halted = False
        self.grown = []
        self.ended = []
        self.answers = 0
        self.breaks = 0

    def ask(self, rank, leans, edits):
        """Let a change ask, and tell its number."""
        number = self.known.added(rank, leans, edits)
        self.settle()
        return number

    def withdraw(self, number):
        """Put a change out that is laid or waits."""
        if not self.known.has(number):
            raise NoChange(f"no change has the number {number}")
        if number in self.on_line or number in self.grounds:
            raise TooLate(f"change {number} is on the line or out")
        if number in self.laid_ones:
            self.laid_ones = self.laid_ones[:self.laid_ones.index(number)]
        self.grounds[number] = ("withdrawn",)
        self.breaks += 1
        self.settle()

    def answer(self, look, word):
        """Take an answer to a wanted look, and tell what its tally tells."""
        if look not in self.looks:
            raise NoLook("this look is not wanted")
        tally = self.tallies.get(look, Tally(self.numbers[2], self.numbers[3]))
        told = tally.tell(word)
        # Kept only now: a refused answer leaves no tally behind.
        self.tallies[look] = tally
        self.answers += 1
        if told != "more":
            self.ended.append((look, told))
        if told == "yes":
            self.grow(look)
        self.settle()
        return told

    def stop(self):
        """Let all laid ones wait again, and lay none until it goes."""
        self.laid_ones = []
        self.halted = True
        self.breaks += 1
        self.settle()

    def go(self):
        """Let the gate go again."""
        self.halted = False
        self.settle()

    def line(self):
        """The changes on the line, in their order."""
        return list(self.on_line)

    def laid(self):
        """The laid ones, in their order."""
        return list(self.laid_ones)

    def waiting(self):
        """The waiting ones, rising."""
        return [number for number in range(1, self.known.many() + 1) if self.waits(number)]

    def outs(self):
        """The changes that are out, rising, each with its ground."""
        return [(number, self.grounds[number]) for number in sorted(self.grounds)]

    def wanted(self):
        """The looks that are wanted, the shortest first."""
        return list(self.looks)

    def bad(self):
        """The least place of a look that is settled otherwise than yes, or None."""
        for place in range(1, len(self.laid_ones) + 1):
            if self.word_of(self.look_of(place)) in BAD_WORDS:
                return place
        return None

    def stopped(self):
        """Whether the gate is stopped."""
        return self.halted

    def sheet(self):
        """The sheet of the line."""
        return sheet_of(self.known, self.on_line)

    def growths(self):
        """The looks by which the line grew, in their order."""
        return list(self.grown)

    def settled(self):
        """All looks that were ever settled, in their order, each with its word."""
        return list(self.ended)

    def settings(self):
        """The width, the hands, the need and the tries."""
        return self.numbers

    def changes(self):
        """All changes that asked, as the asker's own."""
        return self.known.copied()

    def counts(self):
        """How many looks were settled yes, how many otherwise, and so on."""
        yes = len(self.grown)
        out_by_look = len([number for number in self.grounds if self.grounds[number][0] == "look"])
        return (yes, len(self.ended) - yes, self.answers, out_by_look, self.breaks)

    def waits(self, number):
        """Whether a change is neither on the line nor laid nor out."""
        return number not in self.on_line and number not in self.laid_ones and number not in self.grounds

    def look_of(self, place):
        """The look that has so many of the laid ones."""
        return tuple(self.on_line + self.laid_ones[:place])

    def word_of(self, look):
        """What the tally of a look tells."""
        return self.tallies[look].word() if look in self.tallies else "more"

    def grow(self, look):
        """Take the laid ones that a look has onto the line."""
        self.laid_ones = self.laid_ones[len(look) - len(self.on_line):]
        self.on_line = list(look)
        self.grown.append(look)

    def settle(self):
        """Do what a deed leaves to be done: put out, lay and want."""
        self.put_out_leaning()
        while not self.halted and self.put_out_more():
            self.put_out_leaning()
        self.looks = self.looks_to_want()

    def put_out_leaning(self):
        """Put out the waiting ones that lean on one that is out."""
        # Rising, so that what leans on one put out here is met behind it.
        for number in self.waiting():
            gone = [lean for lean in self.known.leans_of(number) if lean in self.grounds]
            if gone:
                self.grounds[number] = ("leans", gone[0])

    def put_out_more(self):
        """Fill the laid ones up, put out what is in the way, and tell whether some was."""
        # Where a look is bad, the one at fault is sought among those laid by then.
        if self.bad() is None:
            self.laid_ones = filled(self.known, self.on_line, self.laid_ones, self.waiting(), self.numbers[0])
        return self.put_out_bad() or self.put_out_unfit()

    def put_out_bad(self):
        """Put the first laid one out where it is at fault, and tell whether it was."""
        if self.bad() != 1:
            return False
        look = self.look_of(1)
        self.grounds[self.laid_ones[0]] = ("look", tuple(self.on_line), look, self.word_of(look))
        self.laid_ones = []
        return True

    def put_out_unfit(self):
        """Put out those that fit nowhere while none is laid, and tell whether some were."""
        if self.laid_ones:
            return False
        unfitting = free(self.known, self.on_line, [], self.waiting())
        sheet = self.sheet()
        for number in unfitting:
            self.grounds[number] = ("unfit", unfit(sheet, self.known.edits_of(number)))
        return unfitting != []

    def looks_to_want(self):
        """The looks to want, with those kept that were wanted already."""
        size = len(self.laid_ones)
        kept = [place for place in range(1, size + 1) if self.is_kept(self.look_of(place))]
        return [self.look_of(place) for place in wanted_places(size, self.bad(), kept, self.numbers[1])]

    def is_kept(self, look):
        """Whether a look was wanted already and is not settled."""
        return look in self.looks and self.word_of(look) == "more"
