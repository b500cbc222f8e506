"""The refusals, one class for each ground."""


class LinegateError(ValueError):
    """Any refusal."""


class NoFit(LinegateError):
    """Edits do not fit; slot is the least one at which they don't."""

    def __init__(self, slot):
        LinegateError.__init__(self, f"the edits do not fit at slot {slot}")
        self.slot = slot


class NoChange(LinegateError):
    """What was handed in makes no change, or a number is no change's."""


class TooMany(LinegateError):
    """As many changes as there may be were added already."""


class NoRule(LinegateError):
    """The numbers of a tally or a gate are out of their bounds."""


class NoAnswer(LinegateError):
    """A word that is no answer, or an answer to what is settled."""


class NoLook(LinegateError):
    """A look that is not wanted."""


class TooLate(LinegateError):
    """A change that is on the line or out can't be withdrawn."""


class NoRow(LinegateError):
    """A book has not so many rows."""


class NoText(LinegateError):
    """A text that tells nothing to a desk."""
