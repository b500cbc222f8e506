"""Points 3 and 18 to 22: runs of many deeds, against the words of the document.

A plain gate is written down here once more, word by word and without the
package's help, and each run is done on both.
"""

import itertools
import random
import unittest

from helper import WORDS, Chance, shown, told_or_refused
from linegate.changes import stands
from linegate.errors import NoAnswer, NoChange, NoLook, TooLate, TooMany
from linegate.gate import Gate
from linegate.places import most_bad


def values_of(changes, row):
    values = {}
    for number in row:
        for slot, old, new in changes[number][2]:
            if values.get(slot, 0) != old:
                return None
            values[slot] = new
    return values


def least_unfit(values, edits):
    return min([slot for slot, old, new in edits if values.get(slot, 0) != old], default=None)


def places(size, bad, kept, hands):
    open_ones = [place for place in range(1, size + 1) if bad is None or place < bad]
    wanted = [place for place in kept if place in open_ones]
    while len(wanted) < hands and len(wanted) < len(open_ones):
        if bad is None and size not in wanted:
            wanted.append(size)
        else:
            fence = [0] + wanted + [len(open_ones) + 1]
            pairs = list(zip(fence, fence[1:]))
            low, high = max(pairs, key=lambda pair: (pair[1] - pair[0], -pair[0]))
            wanted.append((low + high) // 2)
        wanted.sort()
    return wanted


class PlainGate:
    """The gate in the document's words: the state of each change is written down."""

    def __init__(self, width, hands, need, tries):
        self.width, self.hands, self.need, self.tries = width, hands, need, tries
        self.changes = {}
        self.state = {}
        self.line = []
        self.laid = []
        self.heard = {}
        self.wanted = []
        self.stopped = False
        self.growths = []
        self.settled = []
        self.counts = [0, 0, 0, 0, 0]

    def waiting(self):
        return [number for number in sorted(self.state) if self.state[number] == "waits"]

    def is_out(self, number):
        return self.state[number] not in ("line", "laid", "waits")

    def look(self, place):
        return tuple(self.line) + tuple(self.laid[:place])

    def word(self, look):
        heard = self.heard.get(look, [])
        if heard.count("yes") == self.need:
            return "yes"
        if heard.count("no") == self.need:
            return "no"
        return "unsure" if len(heard) == self.tries else "more"

    def bad(self):
        bads = [place for place in range(1, len(self.laid) + 1) if self.word(self.look(place)) in ("no", "unsure")]
        return min(bads) if bads else None

    def wait_from(self, place):
        for number in self.laid[place:]:
            self.state[number] = "waits"
        self.laid = self.laid[:place]

    def ask(self, rank, leans, edits):
        number = len(self.changes) + 1
        if any(not 1 <= lean < number for lean in leans):
            raise NoChange("leans")
        if number > 60:
            raise TooMany("more than sixty")
        self.changes[number] = (rank, list(leans), list(edits))
        self.state[number] = "waits"
        self.settle()
        return number

    def withdraw(self, number):
        if number not in self.changes:
            raise NoChange("no change")
        if self.state[number] == "line" or self.is_out(number):
            raise TooLate("on the line or out")
        if self.state[number] == "laid":
            self.wait_from(self.laid.index(number))
        self.state[number] = ("withdrawn",)
        self.counts[4] += 1
        self.settle()

    def answer(self, look, word):
        if look not in self.wanted:
            raise NoLook("not wanted")
        if word not in WORDS:
            raise NoAnswer("no answer")
        self.heard.setdefault(look, []).append(word)
        self.counts[2] += 1
        told = self.word(look)
        if told != "more":
            self.settled.append((look, told))
            self.counts[0 if told == "yes" else 1] += 1
        if told == "yes":
            taken = look[len(self.line):]
            for number in taken:
                self.state[number] = "line"
                self.line.append(number)
                self.laid.remove(number)
            self.growths.append(look)
        self.settle()
        return told

    def stop(self):
        self.wait_from(0)
        self.stopped = True
        self.counts[4] += 1
        self.settle()

    def go(self):
        self.stopped = False
        self.settle()

    def settle(self):
        ahead = self.wanted
        again = True
        while again:
            again = False
            for number in self.waiting():
                gone = [lean for lean in self.changes[number][1] if self.is_out(lean)]
                if gone:
                    self.state[number] = ("leans", min(gone))
            if self.stopped:
                self.wanted = []
                return
            if self.bad() is None:
                self.fill()
            if self.bad() == 1:
                look = self.look(1)
                first = self.laid[0]
                self.wait_from(0)
                self.state[first] = ("look", tuple(self.line), look, self.word(look))
                self.counts[3] += 1
                again = True
            elif not self.laid and self.waiting():
                values = values_of(self.changes, self.line)
                for number in self.free():
                    self.state[number] = ("unfit", least_unfit(values, self.changes[number][2]))
                again = True
        looks = [self.look(place) for place in range(1, len(self.laid) + 1)]
        kept = [place for place, look in enumerate(looks, 1) if look in ahead and self.word(look) == "more"]
        self.wanted = [self.look(place) for place in places(len(self.laid), self.bad(), kept, self.hands)]

    def free(self):
        return [
            number for number in self.waiting()
            if all(self.state[lean] in ("line", "laid") for lean in self.changes[number][1])
        ]

    def fill(self):
        while len(self.laid) < self.width:
            values = values_of(self.changes, self.line + self.laid)
            can = [number for number in self.free() if least_unfit(values, self.changes[number][2]) is None]
            if not can:
                return
            number = sorted(can, key=lambda one: (9 - self.changes[one][0], one))[0]
            self.state[number] = "laid"
            self.laid.append(number)

    def shown(self):
        return {
            "line": self.line, "laid": self.laid, "waiting": self.waiting(),
            "outs": [(number, self.state[number]) for number in sorted(self.state) if self.is_out(number)],
            "wanted": self.wanted, "bad": self.bad(), "stopped": self.stopped,
            "sheet": sorted(pair for pair in values_of(self.changes, self.line).items() if pair[1]),
            "growths": self.growths, "settled": self.settled,
            "settings": (self.width, self.hands, self.need, self.tries),
            "changes": [self.changes[number] for number in sorted(self.changes)], "counts": tuple(self.counts),
        }


class RunTest(unittest.TestCase):
    def run_deeds(self, settings, deeds):
        """Do deeds, each told by what a gate tells ahead of it, on both gates."""
        gate = Gate(*settings)
        plain = PlainGate(*settings)
        looks = set()
        for next_deed in deeds:
            deed = next_deed(gate)
            before = shown(gate)
            told = told_or_refused(getattr(gate, deed[0]), *deed[1:])
            self.assertEqual(told, told_or_refused(getattr(plain, deed[0]), *deed[1:]), deed)
            after = shown(gate)
            self.assertEqual(after, plain.shown(), deed)
            if isinstance(told, type):
                self.assertEqual(after, before)
            looks.update(gate.wanted())
            self.assert_promised(gate, after, looks)
            self.assert_line_only_grows(before, after)
        return gate

    def assert_promised(self, gate, told, looks):
        changes = gate.changes()
        out = [number for number, ground in told["outs"]]
        states = told["line"] + told["laid"] + told["waiting"] + out
        self.assertEqual(sorted(states), list(range(1, changes.many() + 1)))
        self.assertEqual((told["waiting"], out), (sorted(told["waiting"]), sorted(out)))
        self.assertTrue(stands(changes, told["line"] + told["laid"]))
        self.assertLessEqual(len(told["laid"]), told["settings"][0])
        self.assertTrue(told["stopped"] or told["laid"] or not told["waiting"])
        self.assertFalse(told["stopped"] and (told["laid"] or told["wanted"]))
        self.assert_looks_promised(told)
        self.assert_outs_promised(told)
        self.assert_counts_promised(told, looks)

    def assert_looks_promised(self, told):
        words = dict(told["settled"])
        self.assertEqual(len(words), len(told["settled"]))
        self.assertEqual(told["growths"], [look for look, word in told["settled"] if word == "yes"])
        self.assertEqual(tuple(told["line"]), (told["growths"] or [()])[-1])
        row = tuple(told["line"] + told["laid"])
        self.assertEqual(told["wanted"], sorted(set(told["wanted"]), key=len))
        self.assertLessEqual(len(told["wanted"]), told["settings"][1])
        for look in told["wanted"]:
            self.assertNotIn(look, words)
            self.assertEqual(look, row[:len(look)])
            self.assertGreater(len(look), len(told["line"]))
        if told["laid"] and not told["stopped"]:
            self.assertTrue(told["wanted"])

    def assert_outs_promised(self, told):
        words = dict(told["settled"])
        for number, ground in told["outs"]:
            if ground[0] == "look":
                self.assertEqual(ground[1] + (number,), ground[2])
                self.assertIn(ground[3], ("no", "unsure"))
                self.assertEqual(words[ground[2]], ground[3])
                self.assertTrue(ground[1] == () or words[ground[1]] == "yes")

    def assert_counts_promised(self, told, looks):
        width, hands, need, tries = told["settings"]
        yes, otherwise, answers, out_by_look, breaks = told["counts"]
        self.assertEqual(yes, len(told["growths"]))
        self.assertEqual(otherwise, len(told["settled"]) - yes)
        self.assertEqual(out_by_look, len([ground for number, ground in told["outs"] if ground[0] == "look"]))
        self.assertLessEqual(yes, len(told["line"]))
        self.assertLessEqual(otherwise, most_bad(width, hands) * (1 + out_by_look + breaks))
        self.assertLessEqual(answers, tries * len(looks))

    def assert_line_only_grows(self, before, after):
        for name in ("line", "growths", "settled", "changes"):
            self.assertEqual(after[name][:len(before[name])], before[name])
        for number, ground in before["outs"]:
            self.assertIn((number, ground), after["outs"])


class ChanceRunsTest(RunTest):
    def runs(self, seeds, many, slots, weights):
        for seed in seeds:
            with self.subTest(seed=seed):
                chance = Chance(seed, slots, weights)
                self.run_deeds(chance.settings(), [chance.deed] * many)

    def test_answers_of_every_kind(self):
        self.runs(range(100), 60, 4, (30, 3, 60, 2, 5, 10))

    def test_many_withdrawals_and_stops(self):
        self.runs(range(1000, 1060), 60, 4, (30, 15, 40, 10, 20, 5))

    def test_many_that_fit_only_upon_others(self):
        self.runs(range(2000, 2060), 60, 2, (40, 5, 50, 3, 6, 2))

    def test_up_to_sixty_changes(self):
        self.runs(range(3000, 3006), 250, 8, (60, 1, 60, 1, 3, 2))

    def test_hundreds_of_deeds(self):
        self.runs(range(4000, 4003), 600, 6, (8, 1, 60, 5, 6, 10))


class SmallRunsTest(RunTest):
    def test_every_run_of_some_deeds(self):
        def last(gate):
            return ("answer", (gate.wanted() or [()])[-1])

        def first(gate):
            return ("answer", (gate.wanted() or [()])[0])

        deeds = (
            lambda gate: last(gate) + ("yes",), lambda gate: last(gate) + ("no",),
            lambda gate: first(gate) + ("yes",), lambda gate: first(gate) + ("unsure",),
            lambda gate: ("withdraw", 2), lambda gate: ("stop",), lambda gate: ("go",),
        )
        begin = [
            lambda gate: ("stop",), lambda gate: ("ask", 0, [], [(0, 0, 1)]), lambda gate: ("ask", 1, [1], []),
            lambda gate: ("ask", 0, [], [(0, 1, 2)]), lambda gate: ("ask", 0, [2], []), lambda gate: ("go",),
        ]
        for chosen in itertools.product(deeds, repeat=3):
            self.run_deeds((3, 2, 1, 1), begin + list(chosen))


class FaultsTest(RunTest):
    """Answers by what is at fault, so that no other one may be out by a look."""

    def answered(self, gate, faulty, clashing):
        while gate.wanted():
            look = gate.wanted()[-1]
            clashes = [pair for pair in clashing if set(pair) <= set(look)]
            gate.answer(look, "no" if clashes or set(look) & faulty else "yes")

    def test_just_the_faulty_ones_are_out(self):
        chance = random.Random(33)
        for turn in range(80):
            many = chance.randint(1, 20)
            faulty = {number for number in range(1, many + 1) if chance.random() < 0.25}
            gate = Gate(chance.randint(1, 16), chance.randint(1, 8), 1, 1)
            for number in range(many):
                gate.ask(chance.randint(0, 9), [], [])
            self.answered(gate, faulty, [])
            self.assertEqual({number for number, ground in gate.outs()}, faulty)
            self.assertEqual(set(gate.line()), set(range(1, many + 1)) - faulty)
            self.assertEqual((gate.waiting(), gate.laid()), ([], []))

    def test_of_two_that_clash_one_is_out(self):
        chance = random.Random(34)
        for turn in range(80):
            many = chance.randint(2, 16)
            clashing = [tuple(chance.sample(range(1, many + 1), 2)) for pair in range(chance.randint(1, 4))]
            gate = Gate(chance.randint(1, 16), chance.randint(1, 8), 1, 1)
            for number in range(many):
                gate.ask(chance.randint(0, 9), [], [])
            self.answered(gate, set(), clashing)
            out = [number for number, ground in gate.outs()]
            self.assertEqual(sorted(gate.line() + out), list(range(1, many + 1)))
            for number, ground in gate.outs():
                self.assertTrue(any(number in pair and set(pair) <= set(ground[2]) for pair in clashing))
            for pair in clashing:
                self.assertFalse(set(pair) <= set(gate.line()))


class GreatRunTest(RunTest):
    def test_two_thousand_deeds(self):
        gate = Gate(16, 8, 10, 20)
        chance = random.Random(20)
        looks = set()
        for number in range(60):
            gate.ask(number % 10, [number] if number % 7 == 3 else [], [(number, 0, 1), (number + 60, 0, 2)])
        for turn in range(1940):
            looks.update(gate.wanted())
            if turn % 200 == 100:
                gate.stop()
            elif gate.wanted():
                gate.answer(chance.choice(gate.wanted()), chance.choice(WORDS))
            else:
                gate.go()
        told = shown(gate)
        self.assertGreater(told["counts"][2], 900)
        self.assert_promised(gate, told, looks)


if __name__ == "__main__":
    unittest.main()
