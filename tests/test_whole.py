"""Points 2 and 3 and the interface, over the whole program."""

import copy
import importlib
import inspect
import itertools
import random
import unittest

from helper import WORDS, Chance, gate_of, shown, shown_changes, told_or_refused
from linegate import errors
from linegate.books import Book, done
from linegate.changes import Changes, keeps, sheet_of, stands
from linegate.desk import Desk
from linegate.errors import NoText
from linegate.gate import Gate
from linegate.laying import filled, free, layable, next_laid
from linegate.places import wanted_places
from linegate.reasons import why
from linegate.rows import read_row, shown_row
from linegate.sheets import between, edited, joined, unfit, value_at, way_back

INTERFACE = {
    "sheets": {
        "value_at": "sheet slot", "unfit": "sheet edits", "edited": "sheet edits", "way_back": "edits",
        "joined": "one other", "between": "sheet other",
    },
    "changes": {
        "Changes": "", "Changes.added": "rank leans edits", "Changes.many": "", "Changes.rank_of": "number",
        "Changes.leans_of": "number", "Changes.edits_of": "number", "Changes.over": "number",
        "Changes.under": "number", "keeps": "changes row", "stands": "changes row", "sheet_of": "changes row",
    },
    "tallies": {"Tally": "need tries", "Tally.tell": "word", "Tally.counted": "", "Tally.word": ""},
    "laying": {
        "free": "changes line laid waiting", "layable": "changes line laid waiting",
        "next_laid": "changes line laid waiting", "filled": "changes line laid waiting width",
    },
    "places": {"wanted_places": "size bad kept hands", "most_bad": "width hands"},
    "gate": {
        "Gate": "width hands need tries", "Gate.ask": "rank leans edits", "Gate.withdraw": "number",
        "Gate.answer": "look word", "Gate.stop": "", "Gate.go": "", "Gate.line": "", "Gate.laid": "",
        "Gate.waiting": "", "Gate.outs": "", "Gate.wanted": "", "Gate.bad": "", "Gate.stopped": "", "Gate.sheet": "",
        "Gate.growths": "", "Gate.settled": "", "Gate.settings": "", "Gate.changes": "", "Gate.counts": "",
    },
    "books": {
        "done": "gate row", "Book": "width hands need tries", "Book.do": "row", "Book.rows": "", "Book.many": "",
        "Book.gate_of": "many", "Book.take_back": "",
    },
    "reasons": {"why": "gate number"},
    "rows": {"read_row": "text", "shown_row": "row"},
    "desk": {"Desk": "width hands need tries", "Desk.say": "text"},
}
REFUSALS = (
    "NoFit", "NoChange", "TooMany", "NoRule", "NoAnswer", "NoLook", "TooLate", "NoRow", "NoText",
)


class InterfaceTest(unittest.TestCase):
    def test_names_and_arguments(self):
        for module, names in INTERFACE.items():
            for name, arguments in names.items():
                with self.subTest(module=module, name=name):
                    found = importlib.import_module("linegate." + module)
                    for part in name.split("."):
                        found = getattr(found, part)
                    told = [one for one in inspect.signature(found).parameters if one != "self"]
                    self.assertEqual(told, arguments.split())

    def test_each_refusal_stands_right_under_linegate_error(self):
        found = [
            one for one in vars(errors).values()
            if isinstance(one, type) and issubclass(one, errors.LinegateError) and one is not errors.LinegateError
        ]
        self.assertEqual(sorted(one.__name__ for one in found), sorted(REFUSALS))
        for one in found:
            self.assertEqual(one.__bases__, (errors.LinegateError,))


def some_changes():
    changes = Changes()
    for rank, leans, edits in ((4, [], [(3, 0, 7)]), (0, [1], [(3, 7, 8)]), (9, [], []), (5, [1, 3], [(5, 0, 2)])):
        changes.added(rank, leans, edits)
    return changes


def asked(*handed):
    gate = gate_of((2, 2, 1, 1), (0, [], []), (0, [], []))
    return (gate.ask(*handed), shown(gate))


def done_ask(*handed):
    gate = gate_of((2, 2, 1, 1), (0, [], []), (0, [], []))
    return (done(gate, ("ask",) + handed), shown(gate))


def booked(*handed):
    book = Book(2, 2, 1, 1)
    book.do(("ask", 0, [], []))
    book.do(("ask", 0, [], []))
    return (book.do(("ask",) + handed), book.rows(), shown(book.gate_of(3)))


def added(*handed):
    changes = some_changes()
    return (changes.added(*handed), shown_changes(changes))


# Each function that lists are handed in to, with some that it takes and some that it refuses.
CALLS = (
    (value_at, [(3, 7), (5, 2)], 5), (unfit, [(3, 7)], [(3, 7, 8), (4, 1, 0)]), (edited, [(3, 7)], [(3, 7, 8)]),
    (edited, [(3, 7)], [(3, 6, 8)]), (way_back, [(3, 7, 8), (4, 1, 0)]), (joined, [(3, 0, 7)], [(3, 7, 8), (4, 0, 1)]),
    (joined, [(3, 0, 7)], [(3, 6, 8)]), (between, [(3, 7), (5, 2)], [(3, 7), (6, 1)]),
    (added, 1, [1, 2], [(3, 0, 7), (4, 0, 1)]), (added, 1, [2, 1], [(3, 0, 7)]), (added, 1, [1], [(3, 7, 7)]),
    (keeps, some_changes(), [1, 2]), (keeps, some_changes(), [2, 1]), (stands, some_changes(), [1, 3, 4]),
    (stands, some_changes(), [2]), (sheet_of, some_changes(), [1, 2]),
    (free, some_changes(), [1], [3], [2, 4]), (layable, some_changes(), [1], [3], [2, 4]),
    (next_laid, some_changes(), [1], [3], [2, 4]), (filled, some_changes(), [1], [3], [2, 4], 16),
    (wanted_places, 8, 6, [2, 5], 4), (wanted_places, 8, None, [1], 4),
    (asked, 1, [1, 2], [(3, 0, 7), (4, 0, 1)]), (asked, 1, [2, 1], []), (asked, 1, [3], [(3, 0, 7)]),
    (done_ask, 1, [1, 2], [(3, 0, 7), (4, 0, 1)]), (done_ask, 1, [1, 1], [(3, 0, 7)]),
    (booked, 1, [1, 2], [(3, 0, 7), (4, 0, 1)]), (booked, 1, [1], [(1000, 0, 7)]),
    (lambda *handed: shown_row(("ask",) + handed), 1, [1, 2], [(3, 0, 7), (4, 0, 1)]),
)


class PlainKindsTest(unittest.TestCase):
    def kinds_of(self, handed):
        """What is handed in, with each list as a list and as a tuple, side by side."""
        choices = [(list(one), tuple(one)) if isinstance(one, list) else (one,) for one in handed]
        return [copy.deepcopy(chosen) for chosen in itertools.product(*choices)]

    def test_a_tuple_will_do_wherever_a_list_is_handed_in(self):
        for call, *handed in CALLS:
            told = [told_or_refused(call, *chosen) for chosen in self.kinds_of(handed)]
            self.assertGreater(len(told), 1)
            for one in told:
                self.assertEqual(one, told[0], (call, handed))
                self.assertIs(type(one), type(told[0]))

    def test_nothing_handed_in_is_changed(self):
        for call, *handed in CALLS:
            for chosen in self.kinds_of(handed):
                kept = copy.deepcopy(chosen)
                told_or_refused(call, *chosen)
                for one, other in zip(chosen, kept):
                    if isinstance(one, Changes):
                        one, other = shown_changes(one), shown_changes(other)
                    self.assertEqual(one, other)
                    self.assertIs(type(one), type(other))

    def test_what_is_told_is_the_askers_own(self):
        for call, *handed in CALLS:
            chosen = self.kinds_of(handed)[0]
            told = told_or_refused(call, *chosen)
            kept = copy.deepcopy(told)
            again = told_or_refused(call, *chosen)
            self.assertEqual(again, kept)
            for one in chosen:
                if isinstance(one, list):
                    one.clear()
            self.assertEqual(told, kept)
            if isinstance(told, list):
                told.clear()
                self.assertEqual(again, kept)


def text_of(deed):
    """The text of a deed, written down without the package's help."""
    if deed[0] == "ask":
        words = ["ask", deed[1]] + (["on"] if deed[2] else []) + list(deed[2]) + (["put"] if deed[3] else [])
        words += [number for edit in deed[3] for number in edit]
    elif deed[0] == "answer":
        words = [deed[2]] + list(deed[1])
    else:
        words = list(deed)
    return " ".join(map(str, words))


def has_text(deed):
    return deed[0] != "answer" or (deed[2] in WORDS and deed[1] != ())


def numbers_or_none(numbers):
    return " ".join(map(str, numbers)) or "none"


def reason_text(reason):
    if reason[0] == "out" and reason[1][0] == "look":
        good, look, word = reason[1][1:]
        return " ".join(["out", word] + [str(number) for number in look])
    parts = []
    for part in reason:
        parts += list(part) if isinstance(part, (list, tuple)) else [part]
    return " ".join(map(str, parts))


def desk_texts(gate, rows):
    """What a desk answers to each question, told from its gate and its rows."""
    told = {
        "line": numbers_or_none(gate.line()), "laid": numbers_or_none(gate.laid()),
        "waiting": numbers_or_none(gate.waiting()),
        "wanted": "; ".join(numbers_or_none(look) for look in gate.wanted()) or "none",
        "sheet": " ".join(str(slot) + "=" + str(value) for slot, value in gate.sheet()) or "none",
        "book": "\n".join(text_of(row) for row in rows),
    }
    for number in range(1, gate.changes().many() + 1):
        told[f"why {number}"] = reason_text(why(gate, number))
    return told


def as_row(deed):
    return tuple(tuple(part) if isinstance(part, list) else part for part in deed)


class SideBySideTest(unittest.TestCase):
    """The same deeds at a gate, by a book and at a desk."""

    def begin(self, settings):
        self.settings = settings
        self.gate = Gate(*settings)
        self.book = Book(*settings)
        self.desk = Desk(*settings)
        self.rows = []

    def do(self, deed):
        told = told_or_refused(getattr(self.gate, deed[0]), *deed[1:])
        self.assertEqual(told_or_refused(self.book.do, deed), told, deed)
        said = told_or_refused(self.desk.say, text_of(deed))
        if not has_text(deed):
            self.assertIs(said, NoText, deed)
        elif isinstance(told, type):
            self.assertIs(said, told, deed)
        else:
            self.assertEqual(said, "ok" if told is None else str(told), deed)
        if not isinstance(told, type):
            self.rows.append(as_row(deed))

    def take_back(self):
        """Take the last row back, and tell it."""
        self.assertIsNone(self.book.take_back())
        self.assertEqual(self.desk.say("back"), "ok")
        row = self.rows.pop()
        self.gate = self.done_again()
        return row

    def done_again(self):
        gate = Gate(*self.settings)
        for row in self.rows:
            getattr(gate, row[0])(*row[1:])
        return gate

    def assert_the_same(self):
        self.assertEqual((self.book.rows(), self.book.many()), (self.rows, len(self.rows)))
        self.assertEqual(shown(self.book.gate_of(len(self.rows))), shown(self.gate))
        for text, answer in desk_texts(self.gate, self.rows).items():
            self.assertEqual(self.desk.say(text), answer, text)

    def assert_done_again(self):
        """The book's rows and the desk's texts, done again, come to the same."""
        gate = Gate(*self.settings)
        book = Book(*self.settings)
        desk = Desk(*self.settings)
        for row in self.book.rows():
            self.assertEqual(done(gate, row), book.do(row))
            self.assertEqual(read_row(shown_row(row)), row)
        for text in self.desk.say("book").split("\n") if self.rows else ():
            desk.say(text)
        self.assertEqual(shown(gate), shown(self.gate))
        self.assertEqual(book.rows(), self.book.rows())
        self.assertEqual(shown(book.gate_of(book.many())), shown(self.gate))
        for text in desk_texts(self.gate, self.rows):
            self.assertEqual(desk.say(text), self.desk.say(text))

    def run_by_chance(self, seed, many, weights, backs):
        chance = Chance(seed, 4, weights)
        dice = random.Random(seed)
        self.begin(chance.settings())
        for turn in range(many):
            if self.rows and dice.random() < backs:
                taken = [self.take_back() for one in range(dice.randint(1, min(4, len(self.rows))))]
                self.assert_the_same()
                for row in reversed(taken[dice.randint(0, len(taken)):]):
                    self.do(row)
                    self.assert_the_same()
            self.do(chance.deed(self.gate))
            self.assert_the_same()
        self.assert_done_again()

    def test_answers_of_every_kind(self):
        for seed in range(25):
            with self.subTest(seed=seed):
                self.run_by_chance(seed, 40, (30, 3, 60, 2, 5, 10), 0)

    def test_many_withdrawals_and_stops(self):
        for seed in range(500, 515):
            with self.subTest(seed=seed):
                self.run_by_chance(seed, 40, (30, 15, 40, 10, 20, 5), 0)

    def test_rows_taken_back_and_told_again(self):
        for seed in range(1000, 1025):
            with self.subTest(seed=seed):
                self.run_by_chance(seed, 40, (30, 4, 60, 3, 6, 5), 0.2)

    def test_a_long_run(self):
        self.run_by_chance(2000, 120, (40, 2, 60, 2, 4, 4), 0.03)


if __name__ == "__main__":
    unittest.main()
