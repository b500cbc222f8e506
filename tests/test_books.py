"""Points 23 and 24, and point 2 for them: rows done on a gate, and books."""

import copy
import itertools
import unittest

from helper import Chance, shown, told_or_refused
from linegate.books import Book, done
from linegate.errors import LinegateError, NoAnswer, NoChange, NoLook, NoRow, NoRule, TooLate, TooMany
from linegate.gate import Gate

ASKS = (
    ("ask", 4, (), ((3, 0, 7),)), ("ask", 0, (1,), ((3, 7, 8), (5, 0, 2))), ("ask", 9, (), ()), ("ask", 1, (1, 2), ()),
)
ROWS = ASKS + (
    ("answer", (1,), "yes"), ("answer", (1, 2, 3, 4), "no"), ("withdraw", 4), ("stop",), ("ask", 2, (), ()), ("go",),
    ("answer", (1, 3, 5, 2), "unsure"),
)


def book_with(rows, settings=(3, 1, 1, 1)):
    book = Book(*settings)
    for row in rows:
        book.do(row)
    return book


def gate_with(rows, settings=(3, 1, 1, 1)):
    """A gate on which the deeds of these rows were done by its own methods."""
    gate = Gate(*settings)
    for row in rows:
        getattr(gate, row[0])(*row[1:])
    return gate


def all_gates(book):
    return [shown(book.gate_of(many)) for many in range(book.many() + 1)]


def is_tuples_all_through(thing):
    if isinstance(thing, tuple):
        return all(is_tuples_all_through(part) for part in thing)
    return type(thing) in (int, str)


def chance_rows(seed, settings, many, weights=(40, 4, 60, 3, 8, 0)):
    """Rows by chance, none of them refused, and the gate on which they were done."""
    chance = Chance(seed, 5, weights)
    gate = Gate(*settings)
    rows = []
    while len(rows) < many:
        row = chance.deed(gate)
        if not isinstance(told_or_refused(getattr(gate, row[0]), *row[1:]), type):
            rows.append(tuple(tuple(part) if isinstance(part, list) else part for part in row))
    return rows, gate


class BookTest(unittest.TestCase):
    def assert_refused(self, refusal, call, *handed):
        with self.assertRaises(LinegateError) as caught:
            call(*handed)
        self.assertIs(caught.exception.__class__, refusal)

    def assert_holds(self, book, rows, settings=(3, 1, 1, 1)):
        """The book tells all that one tells to which just these rows were told."""
        self.assertEqual(book.rows(), list(rows))
        self.assertEqual(book.many(), len(rows))
        told = all_gates(book)
        self.assertEqual(told, [shown(gate_with(rows[:many], settings)) for many in range(len(rows) + 1)])


class DoneTest(BookTest):
    def test_an_ask_tells_the_number(self):
        gate = Gate(3, 1, 1, 1)
        self.assertEqual([done(gate, row) for row in ASKS], [1, 2, 3, 4])
        self.assertEqual(shown(gate), shown(gate_with(ASKS)))

    def test_a_withdrawal_tells_none(self):
        gate = gate_with(ASKS)
        self.assertIsNone(done(gate, ("withdraw", 2)))
        self.assertEqual(shown(gate), shown(gate_with(ASKS + (("withdraw", 2),))))
        self.assertEqual(gate.outs()[0], (2, ("withdrawn",)))

    def test_an_answer_tells_a_text(self):
        for settings, words, told in (
            ((3, 1, 1, 1), ("yes",), ["yes"]), ((3, 1, 1, 1), ("no",), ["no"]), ((3, 1, 1, 1), ("unsure",), ["unsure"]),
            ((3, 1, 2, 3), ("yes", "no", "yes"), ["more", "more", "yes"]),
            ((3, 1, 2, 3), ("yes", "no", "unsure"), ["more", "more", "unsure"]),
        ):
            gate = gate_with(ASKS, settings)
            rows = tuple(("answer", (1,), word) for word in words)
            self.assertEqual([done(gate, row) for row in rows], told)
            self.assertEqual(shown(gate), shown(gate_with(ASKS + rows, settings)))

    def test_stop_and_go_tell_none(self):
        gate = gate_with(ASKS)
        self.assertIsNone(done(gate, ("stop",)))
        self.assertIs(gate.stopped(), True)
        self.assertEqual(shown(gate), shown(gate_with(ASKS + (("stop",),))))
        self.assertIsNone(done(gate, ("go",)))
        self.assertIs(gate.stopped(), False)
        self.assertEqual(shown(gate), shown(gate_with(ASKS + (("stop",), ("go",)))))

    def test_it_is_done_on_the_gate_handed_in_alone(self):
        one, other = Gate(3, 1, 1, 1), Gate(3, 1, 1, 1)
        done(one, ASKS[0])
        self.assertEqual(one.laid(), [1])
        self.assertEqual(shown(other), shown(Gate(3, 1, 1, 1)))

    def test_refused_as_the_deed_is(self):
        gate = gate_with(ASKS + (("answer", (1,), "yes"), ("withdraw", 4)))
        before = shown(gate)
        for refusal, row in (
            (NoChange, ("ask", 10, (), ())), (NoChange, ("ask", 0, (5,), ())), (NoChange, ("ask", 0, (2, 1), ())),
            (NoChange, ("ask", 0, [], [(3, 1, 1)])), (NoChange, ("withdraw", 0)), (NoChange, ("withdraw", 5)),
            (TooLate, ("withdraw", 1)), (TooLate, ("withdraw", 4)), (NoLook, ("answer", (1,), "yes")),
            (NoLook, ("answer", (), "yes")), (NoLook, ("answer", (1,), "maybe")),
            (NoAnswer, ("answer", (1, 2, 3), "more")),
        ):
            with self.subTest(row=row):
                self.assert_refused(refusal, done, gate, row)
                self.assertEqual(shown(gate), before)

    def test_too_many(self):
        gate = gate_with((("ask", 0, (), ()),) * 60)
        before = shown(gate)
        self.assert_refused(TooMany, done, gate, ("ask", 0, (), ()))
        self.assert_refused(NoChange, done, gate, ("ask", 10, (), ()))
        self.assertEqual(shown(gate), before)

    def test_leans_and_edits_as_lists_and_as_tuples(self):
        told = []
        for first, second, third in itertools.product((list, tuple), repeat=3):
            gate = Gate(3, 1, 1, 1)
            for deed, rank, leans, edits in ASKS:
                done(gate, (deed, rank, first(leans), second([third(edit) for edit in edits])))
            told.append(shown(gate))
        self.assertEqual(told, [shown(gate_with(ASKS))] * 8)

    def test_what_is_handed_in_stays_and_is_copied(self):
        gate = gate_with(ASKS)
        row = ("ask", 3, [1, 2], [(6, 0, 1), (7, 0, 2)])
        kept = copy.deepcopy(row)
        done(gate, row)
        self.assertEqual(row, kept)
        before = copy.deepcopy(shown(gate))
        row[2].append(3)
        row[3][0] = (9, 9, 8)
        row[3].append((999, 0, 1))
        self.assertEqual(shown(gate), before)

    def test_a_refused_row_stays_too(self):
        gate = gate_with(ASKS)
        row = ("ask", 3, [2, 1], [(7, 0, 1), (6, 0, 2)])
        kept = copy.deepcopy(row)
        self.assert_refused(NoChange, done, gate, row)
        self.assertEqual(row, kept)


class NewBookTest(BookTest):
    def test_no_rows_to_begin_with(self):
        book = Book(3, 1, 1, 1)
        self.assertEqual(book.rows(), [])
        self.assertEqual(book.many(), 0)
        self.assertEqual(shown(book.gate_of(0)), shown(Gate(3, 1, 1, 1)))

    def test_its_gate_has_the_four_numbers(self):
        for settings in ((1, 1, 1, 1), (16, 8, 20, 20), (4, 3, 1, 2)):
            book = book_with((("ask", 0, (), ()),), settings)
            self.assertEqual(book.gate_of(0).settings(), settings)
            self.assertEqual(book.gate_of(1).settings(), settings)
            book.take_back()
            self.assertEqual(book.gate_of(0).settings(), settings)

    def test_numbers_beyond_their_bounds(self):
        for settings in (
            (0, 1, 1, 1), (17, 1, 1, 1), (-1, 1, 1, 1), (1, 0, 1, 1), (1, 9, 1, 1), (1, -1, 1, 1),
            (1, 1, 0, 1), (1, 1, 2, 1), (1, 1, -1, 1), (1, 1, 1, 0), (1, 1, 1, 21), (1, 1, 21, 21), (16, 8, 20, 19),
        ):
            with self.subTest(settings=settings):
                self.assert_refused(NoRule, Book, *settings)

    def test_two_books_have_nothing_in_common(self):
        one, other = Book(3, 1, 1, 1), Book(3, 1, 1, 1)
        one.do(ASKS[0])
        self.assert_holds(other, ())
        self.assert_holds(one, ASKS[:1])


class DoTest(BookTest):
    def test_it_tells_what_the_deed_tells(self):
        book = Book(3, 1, 1, 1)
        self.assertEqual([book.do(row) for row in ROWS], [1, 2, 3, 4, "yes", "no", None, None, 5, None, "unsure"])

    def test_rows_are_told_in_their_order(self):
        book = Book(3, 1, 1, 1)
        for many, row in enumerate(ROWS):
            self.assert_holds(book, ROWS[:many])
            book.do(row)
        self.assert_holds(book, ROWS)

    def test_rows_are_a_list_of_tuples_all_through(self):
        book = Book(3, 1, 1, 1)
        for row in ROWS:
            if row[0] == "ask":
                row = ("ask", row[1], list(row[2]), [list(edit) for edit in row[3]])
            book.do(row)
        self.assertIs(type(book.rows()), list)
        for row in book.rows():
            self.assertTrue(is_tuples_all_through(row), row)
        self.assert_holds(book, ROWS)

    def test_lists_and_tuples_side_by_side(self):
        for first, second in itertools.product((list, tuple), repeat=2):
            rows = [("ask", row[1], first(row[2]), second(row[3])) for row in ASKS]
            self.assert_holds(book_with(rows), ASKS)

    def test_a_refused_row_is_not_written_down(self):
        book = book_with(ROWS[:5])
        for refusal, row in (
            (NoChange, ("ask", 10, (), ())), (NoChange, ("ask", 0, [5], [])), (NoChange, ("ask", 0, (), ((1, 1, 1),))),
            (NoChange, ("withdraw", 5)), (TooLate, ("withdraw", 1)), (NoLook, ("answer", (1,), "yes")),
            (NoAnswer, ("answer", (1, 2, 3, 4), "maybe")), (NoLook, ("answer", (9,), "maybe")),
        ):
            with self.subTest(row=row):
                self.assert_refused(refusal, book.do, row)
                self.assert_holds(book, ROWS[:5])
        book.do(ROWS[5])
        self.assert_holds(book, ROWS[:6])

    def test_a_refused_row_of_an_empty_book(self):
        book = Book(3, 1, 1, 1)
        for refusal, row in (
            (NoChange, ("withdraw", 1)), (NoLook, ("answer", (1,), "yes")), (NoChange, ("ask", -1, (), ())),
        ):
            self.assert_refused(refusal, book.do, row)
        self.assert_holds(book, ())

    def test_too_many(self):
        rows = (("ask", 0, (), ()),) * 60
        book = book_with(rows)
        self.assert_refused(TooMany, book.do, ("ask", 0, (), ()))
        self.assertEqual(book.rows(), list(rows))

    def test_deeds_that_change_nothing_are_written_down(self):
        rows = (("go",), ("stop",), ("stop",), ("go",), ("go",))
        book = book_with(rows)
        self.assert_holds(book, rows)
        self.assertEqual(book.gate_of(3).counts(), (0, 0, 0, 0, 2))

    def test_what_is_handed_in_stays_and_is_copied(self):
        book = book_with(ASKS)
        row = ("ask", 3, [1, 2], [(6, 0, 1), (7, 0, 2)])
        kept = copy.deepcopy(row)
        book.do(row)
        self.assertEqual(row, kept)
        row[2].append(3)
        row[3][0] = (9, 9, 8)
        row[3].append((999, 0, 1))
        self.assert_holds(book, ASKS + (("ask", 3, (1, 2), ((6, 0, 1), (7, 0, 2))),))

    def test_rows_told_do_not_grow_with_the_book(self):
        book = book_with(ASKS[:2])
        told = book.rows()
        book.do(ASKS[2])
        self.assertEqual(told, list(ASKS[:2]))
        book.take_back()
        book.take_back()
        self.assertEqual(told, list(ASKS[:2]))

    def test_a_told_list_that_is_changed_changes_nothing(self):
        book = book_with(ROWS)
        for change in (list.clear, list.reverse, list.pop, lambda rows: rows.append(("go",))):
            change(book.rows())
            self.assert_holds(book, ROWS)


class GateOfTest(BookTest):
    def test_of_each_number_of_rows(self):
        self.assert_holds(book_with(ROWS), ROWS)

    def test_other_numbers_of_rows(self):
        for many in (0, 1, len(ROWS)):
            book = book_with(ROWS[:many])
            for number in (-1, -many - 1, many + 1, many + 2, 301, 10 ** 12, -10 ** 12):
                with self.subTest(many=many, number=number):
                    self.assert_refused(NoRow, book.gate_of, number)
            self.assert_holds(book, ROWS[:many])

    def test_a_negative_number_counts_not_from_the_end(self):
        book = book_with(ROWS)
        for number in range(-len(ROWS), 0):
            self.assert_refused(NoRow, book.gate_of, number)

    def test_each_gate_is_a_new_one(self):
        book = book_with(ROWS)
        for many in range(len(ROWS) + 1):
            one, other = book.gate_of(many), book.gate_of(many)
            self.assertIsNot(one, other)
            self.assertIs(type(one), Gate)
            before = shown(other)
            one.ask(9, [], [(77, 0, 1)])
            one.stop()
            self.assertNotEqual(shown(one), before)
            self.assertEqual(shown(other), before)

    def test_a_deed_on_a_told_gate_changes_nothing_of_the_book(self):
        book = book_with(ROWS)
        for many in range(len(ROWS) + 1):
            gate = book.gate_of(many)
            gate.ask(9, [], [(77, 0, 1)])
            if gate.wanted():
                gate.answer(gate.wanted()[0], "no")
            gate.stop()
            self.assert_holds(book, ROWS)
        self.assertEqual(book.do(("ask", 0, (), ())), 6)
        self.assert_holds(book, ROWS + (("ask", 0, (), ()),))

    def test_a_told_gates_tallies_are_its_own(self):
        settings = (2, 1, 2, 3)
        rows = (("ask", 0, (), ()), ("answer", (1,), "yes"))
        book = book_with(rows, settings)
        self.assertEqual(book.gate_of(2).answer((1,), "yes"), "yes")
        self.assertEqual(book.gate_of(2).answer((1,), "no"), "more")
        self.assertEqual(book.do(("answer", (1,), "no")), "more")
        self.assertEqual(book.do(("answer", (1,), "no")), "no")

    def test_a_told_gate_does_not_go_on_with_the_book(self):
        book = book_with(ROWS[:4])
        gate = book.gate_of(4)
        before = shown(gate)
        for row in ROWS[4:]:
            book.do(row)
        self.assertEqual(shown(gate), before)
        book.take_back()
        self.assertEqual(shown(gate), before)

    def test_nothing_hangs_on_gates_asked_for_before(self):
        asked, unasked = Book(3, 1, 1, 1), Book(3, 1, 1, 1)
        for row in ROWS:
            all_gates(asked)
            asked.rows()
            self.assertEqual(asked.do(row), unasked.do(row))
        self.assertEqual(all_gates(asked), all_gates(unasked))


class TakeBackTest(BookTest):
    def test_where_there_is_none(self):
        book = Book(3, 1, 1, 1)
        self.assert_refused(NoRow, book.take_back)
        self.assert_holds(book, ())
        book.do(ASKS[0])
        self.assertIsNone(book.take_back())
        self.assert_refused(NoRow, book.take_back)
        self.assert_holds(book, ())
        self.assertEqual(book.do(ASKS[0]), 1)
        self.assert_holds(book, ASKS[:1])

    def test_row_by_row(self):
        book = book_with(ROWS)
        for many in range(len(ROWS) - 1, -1, -1):
            self.assertIsNone(book.take_back())
            self.assert_holds(book, ROWS[:many])
            self.assert_refused(NoRow, book.gate_of, many + 1)
        self.assert_refused(NoRow, book.take_back)

    def test_taken_back_told_again_and_more_behind(self):
        told = list(map(Book(3, 1, 1, 1).do, ROWS))
        for many in range(1, len(ROWS) + 1):
            book = book_with(ROWS[:many])
            book.take_back()
            self.assertEqual([book.do(row) for row in ROWS[many - 1:]], told[many - 1:])
            self.assert_holds(book, ROWS)

    def test_another_row_in_its_place(self):
        book = book_with(ROWS[:5])
        book.take_back()
        self.assertEqual(book.do(("answer", (1,), "no")), "no")
        rows = ROWS[:4] + (("answer", (1,), "no"), ("go",))
        book.do(("go",))
        self.assert_holds(book, rows)

    def test_an_answer_taken_back_leaves_the_tally_as_it_was(self):
        settings = (2, 1, 2, 3)
        book = book_with((("ask", 0, (), ()), ("answer", (1,), "no"), ("answer", (1,), "yes")), settings)
        book.take_back()
        self.assertEqual(book.do(("answer", (1,), "unsure")), "more")
        book.take_back()
        book.take_back()
        self.assertEqual([book.do(("answer", (1,), "no")) for turn in range(2)], ["more", "no"])

    def test_an_ask_taken_back_gives_its_number_free(self):
        book = book_with(ASKS)
        book.take_back()
        self.assertEqual(book.do(("ask", 0, (), ())), 4)

    def test_a_settled_look_taken_back_is_wanted_again(self):
        book = book_with(ASKS + (("answer", (1,), "no"),))
        self.assert_refused(NoLook, book.do, ("answer", (1,), "yes"))
        book.take_back()
        self.assertEqual(book.do(("answer", (1,), "yes")), "yes")

    def test_a_refused_row_takes_nothing_back(self):
        book = book_with(ROWS[:5])
        self.assert_refused(TooLate, book.do, ("withdraw", 1))
        book.take_back()
        self.assert_holds(book, ROWS[:4])


class LongBooksTest(BookTest):
    def test_three_hundred_rows(self):
        settings = (8, 3, 2, 3)
        rows, gate = chance_rows(24, settings, 300)
        book = Book(*settings)
        again = Gate(*settings)
        prefixes = [shown(again)]
        for row in rows:
            self.assertEqual(book.do(row), done(again, row))
            prefixes.append(shown(again))
        self.assertEqual(shown(again), shown(gate))
        self.assertEqual((book.many(), book.rows()), (300, rows))
        for many in list(range(0, 301, 7)) + [299, 300]:
            self.assertEqual(shown(book.gate_of(many)), prefixes[many])
        self.assert_refused(NoRow, book.gate_of, 301)
        for many in range(299, 259, -1):
            book.take_back()
            self.assertEqual((book.many(), book.rows()), (many, rows[:many]))
        self.assertEqual(shown(book.gate_of(260)), prefixes[260])
        self.assertEqual([book.do(row) for row in rows[260:]][-1:], [done(book.gate_of(299), rows[299])])
        self.assertEqual(shown(book.gate_of(300)), prefixes[300])

    def test_books_by_chance(self):
        for seed in range(12):
            chance = Chance(seed, 4, (40, 4, 60, 3, 8, 0))
            settings = chance.settings()
            rows, gate = chance_rows(seed, settings, 50)
            book = book_with(rows, settings)
            self.assert_holds(book, rows, settings)
            self.assertEqual(shown(book.gate_of(50)), shown(gate))


if __name__ == "__main__":
    unittest.main()
