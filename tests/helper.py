"""What several tests have in common: all that a gate tells, and deeds by chance."""

import random

from linegate.errors import LinegateError
from linegate.gate import Gate

WORDS = ("yes", "no", "unsure")
STATE = (
    "line", "laid", "waiting", "outs", "wanted", "bad", "stopped", "sheet", "growths", "settled", "settings", "counts",
)


def shown_changes(changes):
    numbers = range(1, changes.many() + 1)
    return [(changes.rank_of(number), changes.leans_of(number), changes.edits_of(number)) for number in numbers]


def shown(gate):
    """All that a gate tells of itself."""
    told = {name: getattr(gate, name)() for name in STATE}
    told["changes"] = shown_changes(gate.changes())
    return told


def gate_of(settings, *triples):
    """A gate that changes of these ranks, leans and edits asked while it was stopped."""
    gate = Gate(*settings)
    gate.stop()
    for rank, leans, edits in triples:
        gate.ask(rank, leans, edits)
    gate.go()
    return gate


def told_or_refused(call, *handed):
    """What a call tells, or the class with which it is refused."""
    try:
        return call(*handed)
    except LinegateError as refusal:
        return refusal.__class__


class Chance:
    """Deeds by chance, some of them to be refused."""

    def __init__(self, seed, slots, weights):
        self.chance = random.Random(seed)
        self.slots = slots
        self.weights = weights

    def settings(self):
        tries = self.chance.choice((1, 1, 2, 3, 5))
        need = self.chance.randint(1, tries)
        return (self.chance.choice((1, 2, 3, 4, 5, 8, 16)), self.chance.choice((1, 1, 2, 3, 8)), need, tries)

    def deed(self, gate):
        kind = self.chance.choices(("ask", "withdraw", "answer", "stop", "go", "wrong"), self.weights)[0]
        if kind == "answer" and not gate.wanted():
            kind = "go" if gate.stopped() and self.chance.random() < 0.3 else "ask"
        return getattr(self, kind)(gate)

    def ask(self, gate):
        many = gate.changes().many()
        leans = sorted(self.chance.sample(range(1, many + 1), min(many, self.chance.choice((0, 0, 0, 1, 1, 2)))))
        edits = []
        for slot in sorted(self.chance.sample(range(self.slots), self.chance.choice((0, 0, 1, 1, 2)))):
            old = dict(gate.sheet()).get(slot, 0) if self.chance.random() < 0.6 else self.chance.randint(0, 2)
            edits.append((slot, old, (old + self.chance.randint(1, 2)) % 3))
        return ("ask", self.chance.randint(0, 3), leans, edits)

    def withdraw(self, gate):
        there = gate.laid() + gate.waiting()
        return ("withdraw", self.chance.choice(there) if there else 1)

    def answer(self, gate):
        return ("answer", self.chance.choice(gate.wanted()), self.chance.choices(WORDS, (5, 3, 2))[0])

    def stop(self, gate):
        return ("stop",)

    def go(self, gate):
        return ("go",)

    def wrong(self, gate):
        many = gate.changes().many()
        looks = gate.wanted() + gate.growths() + [look for look, word in gate.settled()]
        look = self.chance.choice(looks + [(), tuple(gate.line()), (1,), (many,)])
        return self.chance.choice((
            ("ask", 0, [many + 1], []), ("withdraw", self.chance.randint(0, many + 1)),
            ("answer", look, self.chance.choice(("", "more", "Yes"))), ("answer", look, "yes"), ("answer", look, "no"),
        ))
