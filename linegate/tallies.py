"""Tallies: the answers to one look, and what they come to."""

from linegate.errors import NoAnswer, NoRule
from linegate.wholes import within

WORDS = ("yes", "no", "unsure")
MOST_TRIES = 20


class Tally:
    """The answers to one look, gathered until they settle it."""

    def __init__(self, need, tries):
        if not makes_tally(need, tries):
            raise NoRule("need and tries make no tally")
        self.need = need
        self.tries = tries
        self.heard = []

    def tell(self, word):
        """Add an answer and tell what the answers come to then."""
        if word not in WORDS:
            raise NoAnswer("this word is no answer")
        if self.word() != "more":
            raise NoAnswer("this tally is settled")
        self.heard.append(word)
        return self.word()

    def counted(self):
        """How many yes, no and unsure there are."""
        return tuple([self.heard.count(word) for word in WORDS])

    def word(self):
        """What the answers come to so far."""
        if self.heard.count("yes") >= self.need:
            return "yes"
        if self.heard.count("no") >= self.need:
            return "no"
        if len(self.heard) >= self.tries:
            return "unsure"
        return "more"


def makes_tally(need, tries):
    """Whether these two numbers make a tally."""
    return within(tries, 1, MOST_TRIES) and within(need, 1, tries)
