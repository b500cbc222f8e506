"""Points 17 to 19, 21 and 22, and point 2 for them: the gate and its deeds."""

import itertools
import unittest

from helper import shown, shown_changes
from linegate import errors
from linegate.changes import Changes
from linegate.errors import LinegateError, NoAnswer, NoChange, NoLook, NoRule, TooLate, TooMany
from linegate.gate import Gate

REFUSALS = (
    errors.NoFit, errors.NoChange, errors.TooMany, errors.NoRule, errors.NoAnswer, errors.NoLook, errors.TooLate,
    errors.NoRow, errors.NoText,
)


def gate_with(many, width=4, hands=2, need=1, tries=1):
    """A gate that so many changes without leans and edits asked."""
    gate = Gate(width, hands, need, tries)
    for turn in range(many):
        gate.ask(0, [], [])
    return gate


def gone_with(many, width=4, hands=2, need=1, tries=1):
    """The same, stopped and gone again: no look is kept of when fewer were laid."""
    gate = gate_with(many, width, hands, need, tries)
    gate.stop()
    gate.go()
    return gate


class GateTest(unittest.TestCase):
    def assert_told(self, gate, **parts):
        told = shown(gate)
        for name, part in parts.items():
            self.assertEqual(told[name], part, name)

    def assert_refused(self, gate, refusal, deed, *handed):
        before = shown(gate)
        with self.assertRaises(LinegateError) as caught:
            getattr(gate, deed)(*handed)
        self.assertIsInstance(caught.exception, ValueError)
        kin = [one for one in REFUSALS if isinstance(caught.exception, one)]
        self.assertEqual(kin, [refusal])
        self.assertEqual(shown(gate), before)


class NewGateTest(GateTest):
    def test_to_begin_with(self):
        self.assertEqual(shown(Gate(3, 2, 1, 4)), {
            "line": [], "laid": [], "waiting": [], "outs": [], "wanted": [], "bad": None, "stopped": False,
            "sheet": [], "growths": [], "settled": [], "settings": (3, 2, 1, 4), "changes": [],
            "counts": (0, 0, 0, 0, 0),
        })
        self.assertIs(Gate(3, 2, 1, 4).stopped(), False)

    def test_numbers_at_their_bounds(self):
        for settings in ((1, 1, 1, 1), (16, 8, 20, 20), (16, 1, 1, 20), (1, 8, 7, 7), (8, 4, 2, 3)):
            self.assertEqual(Gate(*settings).settings(), settings)

    def test_numbers_beyond_their_bounds(self):
        for settings in (
            (0, 1, 1, 1), (17, 1, 1, 1), (-1, 1, 1, 1), (60, 1, 1, 1), (True, 1, 1, 1),
            (1, 0, 1, 1), (1, 9, 1, 1), (1, -1, 1, 1), (1, 16, 1, 1), (1, True, 1, 1),
            (1, 1, 0, 1), (1, 1, 0, 0), (1, 1, 2, 1), (1, 1, -1, 1), (1, 1, 21, 21), (1, 1, True, 1),
            (1, 1, 1, 0), (1, 1, 1, 21), (1, 1, 20, 21), (1, 1, 1, -1), (1, 1, 1, True), (16, 8, 20, 19),
        ):
            with self.subTest(settings=settings):
                self.assertRaises(NoRule, Gate, *settings)

    def test_every_width_and_every_hands(self):
        for width, hands in itertools.product(range(-1, 20), range(-1, 12)):
            if 1 <= width <= 16 and 1 <= hands <= 8:
                self.assertEqual(Gate(width, hands, 1, 1).settings(), (width, hands, 1, 1))
            else:
                self.assertRaises(NoRule, Gate, width, hands, 1, 1)

    def test_two_gates_have_nothing_in_common(self):
        one = gate_with(3)
        other = Gate(4, 2, 1, 1)
        one.answer(one.wanted()[0], "yes")
        one.stop()
        self.assertEqual(shown(other), shown(Gate(4, 2, 1, 1)))

    def test_the_width_is_how_many_may_be_laid(self):
        for width in range(1, 17):
            gate = gate_with(18, width=width)
            self.assert_told(gate, laid=list(range(1, width + 1)), waiting=list(range(width + 1, 19)))

    def test_hands_are_how_many_looks_there_may_be(self):
        for hands in range(1, 9):
            gate = gate_with(16, width=16, hands=hands)
            self.assertEqual(len(gate.wanted()), hands)

    def test_need_and_tries_are_those_of_the_tallies(self):
        gate = gate_with(1, need=2, tries=3)
        self.assertEqual([gate.answer((1,), word) for word in ("yes", "unsure", "yes")], ["more", "more", "yes"])
        gate = gate_with(1, need=2, tries=3)
        self.assertEqual([gate.answer((1,), word) for word in ("no", "yes", "unsure")], ["more", "more", "unsure"])


class AskTest(GateTest):
    def test_numbers_from_one_on(self):
        gate = Gate(2, 1, 1, 1)
        self.assertEqual([gate.ask(0, [], []) for turn in range(4)], [1, 2, 3, 4])
        self.assert_told(gate, laid=[1, 2], waiting=[3, 4], counts=(0, 0, 0, 0, 0))

    def test_what_asked_is_told_by_changes(self):
        gate = Gate(2, 1, 1, 1)
        gate.ask(7, [], [(3, 0, 5)])
        gate.ask(0, [1], [(3, 5, 0), (9, 1, 2)])
        self.assertEqual(shown_changes(gate.changes()), [(7, [], [(3, 0, 5)]), (0, [1], [(3, 5, 0), (9, 1, 2)])])
        self.assertIsInstance(gate.changes(), Changes)

    def test_one_that_is_out_at_once_has_its_number_told(self):
        gate = Gate(2, 1, 1, 1)
        self.assertEqual(gate.ask(0, [], [(3, 1, 2)]), 1)
        self.assertEqual(gate.ask(0, [1], []), 2)
        self.assert_told(gate, outs=[(1, ("unfit", 3)), (2, ("leans", 1))], laid=[], waiting=[], wanted=[])

    def test_what_makes_no_change(self):
        gate = gate_with(2)
        for rank, leans, edits in (
            (-1, [], []), (10, [], []), (True, [], []), (0, [0], []), (0, [3], []), (0, [2, 1], []), (0, [1, 1], []),
            (0, [], [(1000, 0, 1)]), (0, [], [(-1, 0, 1)]), (0, [], [(3, 1, 1)]), (0, [], [(3, 0, 1), (3, 1, 2)]),
            (0, [], [(4, 0, 1), (3, 0, 1)]), (0, [], [(3, 0, 1000000001)]), (0, [], [(3, -1, 0)]),
            (0, [], [(slot, 0, 1) for slot in range(21)]),
        ):
            self.assert_refused(gate, NoChange, "ask", rank, leans, edits)
        self.assertEqual(gate.ask(0, [], []), 3)

    def test_sixty_and_one_more(self):
        gate = gate_with(60, width=16)
        self.assert_refused(gate, TooMany, "ask", 0, [], [])
        self.assert_refused(gate, NoChange, "ask", 10, [], [])
        self.assert_refused(gate, NoChange, "ask", 0, [61], [])
        gate.withdraw(1)
        self.assert_refused(gate, TooMany, "ask", 0, [], [])
        gate.stop()
        self.assert_refused(gate, TooMany, "ask", 9, [60], [(0, 0, 1)])

    def test_lists_and_tuples_side_by_side(self):
        told = []
        for first, second in itertools.product((list, tuple), repeat=2):
            gate = Gate(3, 2, 1, 1)
            gate.ask(0, first([]), second([(3, 0, 1)]))
            gate.ask(5, first([1]), second([(3, 1, 2), (4, 0, 1)]))
            told.append(shown(gate))
        self.assertEqual(told, [told[0]] * 4)

    def test_what_was_handed_in_is_copied(self):
        gate = Gate(3, 2, 1, 1)
        gate.ask(0, [], [])
        leans, edits = [1], [(3, 0, 1)]
        gate.ask(0, leans, edits)
        self.assertEqual((leans, edits), ([1], [(3, 0, 1)]))
        before = shown(gate)
        leans.append(2)
        edits[0] = (3, 5, 6)
        self.assertEqual(shown(gate), before)
        gate.answer((1, 2), "yes")
        self.assert_told(gate, line=[1, 2], sheet=[(3, 1)])


class WithdrawTest(GateTest):
    def test_a_waiting_one(self):
        gate = gate_with(3, width=1)
        self.assertIsNone(gate.withdraw(2))
        self.assert_told(
            gate, laid=[1], waiting=[3], outs=[(2, ("withdrawn",))], wanted=[(1,)], counts=(0, 0, 0, 0, 1),
        )

    def test_the_last_laid_one(self):
        gate = gate_with(3, width=3)
        self.assertIsNone(gate.withdraw(3))
        self.assert_told(gate, laid=[1, 2], waiting=[], outs=[(3, ("withdrawn",))], counts=(0, 0, 0, 0, 1))

    def test_all_behind_a_laid_one_wait_again(self):
        gate = Gate(4, 1, 1, 1)
        for rank in (5, 6, 7, 8, 9):
            gate.ask(rank, [], [])
        self.assert_told(gate, laid=[1, 2, 3, 4], waiting=[5])
        gate.withdraw(2)
        self.assert_told(gate, laid=[1, 5, 4, 3], waiting=[], outs=[(2, ("withdrawn",))])

    def test_the_first_laid_one(self):
        gate = Gate(3, 1, 1, 1)
        for rank in (5, 6, 7):
            gate.ask(rank, [], [])
        gate.withdraw(1)
        self.assert_told(gate, laid=[3, 2], waiting=[], wanted=[(3, 2)])

    def test_one_behind_a_laid_one_that_fits_no_more(self):
        gate = Gate(3, 1, 1, 1)
        gate.ask(0, [], [(3, 0, 1)])
        gate.ask(0, [], [(3, 1, 2)])
        self.assert_told(gate, laid=[1, 2])
        gate.withdraw(1)
        self.assert_told(gate, laid=[], waiting=[], outs=[(1, ("withdrawn",)), (2, ("unfit", 3))])

    def test_one_while_the_gate_is_stopped(self):
        gate = gate_with(2)
        gate.stop()
        self.assertIsNone(gate.withdraw(1))
        self.assert_told(gate, waiting=[2], outs=[(1, ("withdrawn",))], laid=[], counts=(0, 0, 0, 0, 2))

    def test_of_no_change(self):
        for many in (0, 1, 3):
            gate = gate_with(many)
            for number in (0, -1, many + 1, 61, 1000, True if many == 0 else 0):
                self.assert_refused(gate, NoChange, "withdraw", number)

    def test_of_one_on_the_line(self):
        gate = gate_with(2)
        gate.answer((1,), "yes")
        self.assert_refused(gate, TooLate, "withdraw", 1)
        gate.stop()
        self.assert_refused(gate, TooLate, "withdraw", 1)

    def test_of_one_that_is_out(self):
        gate = gate_with(2)
        gate.withdraw(1)
        self.assert_refused(gate, TooLate, "withdraw", 1)
        gate.answer((2,), "no")
        self.assert_refused(gate, TooLate, "withdraw", 2)
        gate.ask(0, [2], [])
        gate.ask(0, [], [(0, 1, 2)])
        self.assert_refused(gate, TooLate, "withdraw", 3)
        self.assert_refused(gate, TooLate, "withdraw", 4)


class AnswerTest(GateTest):
    def test_more_until_it_is_settled(self):
        gate = gate_with(1, need=2, tries=3)
        before = shown(gate)
        self.assertEqual(gate.answer((1,), "yes"), "more")
        self.assertEqual(shown(gate), dict(before, counts=(0, 0, 1, 0, 0)))
        self.assertEqual(gate.answer((1,), "no"), "more")
        self.assertEqual(shown(gate), dict(before, counts=(0, 0, 2, 0, 0)))
        self.assertEqual(gate.answer((1,), "yes"), "yes")
        self.assert_told(gate, line=[1], laid=[], wanted=[], counts=(1, 0, 3, 0, 0), settled=[((1,), "yes")])

    def test_yes_takes_several_onto_the_line_at_once(self):
        gate = gone_with(4)
        self.assert_told(gate, wanted=[(1, 2), (1, 2, 3, 4)])
        self.assertEqual(gate.answer((1, 2), "yes"), "yes")
        self.assert_told(
            gate, line=[1, 2], laid=[3, 4], waiting=[], growths=[(1, 2)], settled=[((1, 2), "yes")],
            wanted=[(1, 2, 3), (1, 2, 3, 4)], counts=(1, 0, 1, 0, 1), outs=[],
        )

    def test_yes_takes_all_of_them(self):
        gate = gone_with(4)
        self.assertEqual(gate.answer((1, 2, 3, 4), "yes"), "yes")
        self.assert_told(gate, line=[1, 2, 3, 4], laid=[], growths=[(1, 2, 3, 4)], wanted=[])

    def test_yes_keeps_the_order_of_the_laid_ones(self):
        gate = Gate(3, 1, 1, 1)
        gate.stop()
        for rank in (1, 3, 2):
            gate.ask(rank, [], [])
        gate.go()
        self.assertEqual(gate.answer((2, 3, 1), "yes"), "yes")
        self.assert_told(gate, line=[2, 3, 1], growths=[(2, 3, 1)])

    def test_yes_makes_room_for_waiting_ones(self):
        gate = gone_with(6)
        gate.answer((1, 2), "yes")
        self.assert_told(gate, line=[1, 2], laid=[3, 4, 5, 6], waiting=[], wanted=[(1, 2, 3, 4), (1, 2, 3, 4, 5, 6)])

    def test_the_sheet_is_the_lines(self):
        gate = Gate(2, 2, 1, 1)
        gate.ask(0, [], [(3, 0, 1), (4, 0, 2)])
        gate.ask(0, [], [(3, 1, 0), (5, 0, 9)])
        self.assert_told(gate, sheet=[])
        gate.answer((1,), "yes")
        self.assert_told(gate, sheet=[(3, 1), (4, 2)], laid=[2])
        gate.answer((1, 2), "yes")
        self.assert_told(gate, sheet=[(4, 2), (5, 9)])

    def test_no_and_unsure_make_a_place_bad(self):
        for word in ("no", "unsure"):
            gate = gone_with(4)
            self.assertEqual(gate.answer((1, 2, 3, 4), word), word)
            self.assert_told(
                gate, line=[], laid=[1, 2, 3, 4], bad=4, wanted=[(1,), (1, 2)], settled=[((1, 2, 3, 4), word)],
                growths=[], counts=(0, 1, 1, 0, 1),
            )
            self.assertEqual(gate.answer((1, 2), word), word)
            self.assert_told(gate, bad=2, wanted=[(1,)], counts=(0, 2, 2, 0, 1))

    def test_looks_that_are_not_wanted(self):
        gate = gone_with(4)
        gate.answer((1, 2), "yes")
        for look in (
            (), (1,), (1, 2), (3,), (3, 4), (1, 2, 4), (2, 1, 3), (1, 2, 3, 4, 5), (1, 2, 4, 3), (1, 2, 3, 3), (0,), (99,),
        ):
            for word in ("yes", "no", "unsure"):
                self.assert_refused(gate, NoLook, "answer", look, word)

    def test_a_look_that_is_one_but_is_not_wanted(self):
        gate = gate_with(4, hands=1)
        self.assert_told(gate, wanted=[(1,)])
        self.assert_refused(gate, NoLook, "answer", (1, 2, 3, 4), "yes")
        gate.stop()
        gate.go()
        self.assert_told(gate, wanted=[(1, 2, 3, 4)])
        self.assert_refused(gate, NoLook, "answer", (1, 2), "yes")

    def test_a_look_that_is_settled_is_not_wanted(self):
        gate = gone_with(4)
        gate.answer((1, 2, 3, 4), "no")
        self.assert_refused(gate, NoLook, "answer", (1, 2, 3, 4), "yes")

    def test_no_look_comes_ahead_of_no_answer(self):
        gate = gone_with(4)
        for word in ("", "Yes", "more", "maybe"):
            self.assert_refused(gate, NoLook, "answer", (1, 2, 3), word)
            self.assert_refused(gate, NoLook, "answer", (), word)
            self.assert_refused(gate, NoAnswer, "answer", (1, 2), word)

    def test_words_that_are_no_answers(self):
        gate = gate_with(2, need=2, tries=2)
        for word in ("", "Yes", "yes ", " no", "more", "NO", "unsure.", "y"):
            self.assert_refused(gate, NoAnswer, "answer", (1, 2), word)
        self.assertEqual(gate.answer((1, 2), "yes"), "more")
        self.assert_refused(gate, NoAnswer, "answer", (1, 2), "more")
        self.assertEqual(gate.answer((1, 2), "yes"), "yes")

    def test_nothing_is_wanted_of_an_empty_or_a_stopped_gate(self):
        self.assert_refused(Gate(1, 1, 1, 1), NoLook, "answer", (), "yes")
        self.assert_refused(Gate(1, 1, 1, 1), NoLook, "answer", (1,), "yes")
        gate = gate_with(2)
        gate.stop()
        self.assert_refused(gate, NoLook, "answer", (1,), "yes")
        self.assert_refused(gate, NoLook, "answer", (1, 2), "maybe")


class TalliesThatStayTest(GateTest):
    def test_a_look_that_comes_again_goes_on_with_its_tally(self):
        gate = gate_with(1, need=2, tries=3)
        self.assertEqual(gate.answer((1,), "yes"), "more")
        gate.stop()
        gate.go()
        self.assertEqual(gate.answer((1,), "no"), "more")
        gate.stop()
        gate.go()
        self.assertEqual(gate.answer((1,), "unsure"), "unsure")
        self.assert_told(gate, counts=(0, 1, 3, 1, 2), outs=[(1, ("look", (), (1,), "unsure"))])

    def test_a_tally_goes_on_where_another_look_was_wanted_between(self):
        gate = gate_with(2, hands=1, need=2, tries=2)
        gate.answer((1,), "yes")
        gate.stop()
        gate.go()
        self.assert_told(gate, wanted=[(1, 2)])
        gate.answer((1, 2), "no")
        gate.withdraw(2)
        self.assert_told(gate, wanted=[(1,)])
        self.assertEqual(gate.answer((1,), "yes"), "yes")

    def test_one_that_is_settled_stays_so(self):
        gate = gone_with(2, hands=1)
        gate.answer((1, 2), "no")
        self.assert_told(gate, bad=2, wanted=[(1,)])
        gate.stop()
        self.assert_told(gate, bad=None, wanted=[], laid=[], settled=[((1, 2), "no")])
        gate.go()
        self.assert_told(gate, bad=2, wanted=[(1,)], laid=[1, 2], settled=[((1, 2), "no")])

    def test_one_that_is_settled_stays_so_on_a_grown_line(self):
        gate = gone_with(4)
        gate.answer((1, 2, 3, 4), "unsure")
        gate.answer((1, 2), "yes")
        self.assert_told(gate, line=[1, 2], laid=[3, 4], bad=2, wanted=[(1, 2, 3)])

    def test_a_refused_word_does_not_count_for_a_tally(self):
        gate = gate_with(1, need=1, tries=2)
        self.assert_refused(gate, NoAnswer, "answer", (1,), "maybe")
        self.assertEqual(gate.answer((1,), "unsure"), "more")
        self.assert_refused(gate, NoAnswer, "answer", (1,), "maybe")
        self.assertEqual(gate.answer((1,), "unsure"), "unsure")

    def test_unlike_looks_have_unlike_tallies(self):
        gate = gone_with(4, need=2, tries=2)
        self.assertEqual(gate.answer((1, 2), "yes"), "more")
        self.assertEqual(gate.answer((1, 2, 3, 4), "yes"), "more")
        self.assertEqual(gate.answer((1, 2), "yes"), "yes")
        self.assertEqual(gate.answer((1, 2, 3, 4), "yes"), "yes")


class StopAndGoTest(GateTest):
    def test_a_stop(self):
        gate = gone_with(6)
        gate.answer((1, 2), "yes")
        self.assertIsNone(gate.stop())
        self.assert_told(
            gate, line=[1, 2], laid=[], waiting=[3, 4, 5, 6], wanted=[], bad=None, stopped=True, outs=[],
            counts=(1, 0, 1, 0, 2),
        )
        self.assertIs(gate.stopped(), True)

    def test_a_stop_of_a_stopped_gate_is_counted(self):
        gate = gate_with(2)
        gate.stop()
        before = shown(gate)
        self.assertIsNone(gate.stop())
        self.assertEqual(shown(gate), dict(before, counts=(0, 0, 0, 0, 2)))

    def test_a_go(self):
        gate = gate_with(3)
        gate.stop()
        self.assertIsNone(gate.go())
        self.assert_told(gate, laid=[1, 2, 3], waiting=[], stopped=False, wanted=[(1,), (1, 2, 3)], counts=(0, 0, 0, 0, 1))
        self.assertIs(gate.stopped(), False)

    def test_a_go_of_one_that_goes_changes_nothing(self):
        for many in (0, 1, 3, 6):
            for words in ([], ["no"], ["yes"], ["unsure", "unsure"]):
                gate = gate_with(many)
                for word in words:
                    if gate.wanted():
                        gate.answer(gate.wanted()[-1], word)
                before = shown(gate)
                self.assertIsNone(gate.go())
                self.assertEqual(shown(gate), before)

    def test_asked_while_it_is_stopped(self):
        gate = Gate(2, 1, 1, 1)
        gate.stop()
        self.assertEqual([gate.ask(rank, [], []) for rank in (1, 9, 5)], [1, 2, 3])
        self.assert_told(gate, waiting=[1, 2, 3], laid=[], wanted=[], outs=[])
        gate.go()
        self.assert_told(gate, laid=[2, 3], waiting=[1], wanted=[(2, 3)])

    def test_what_fits_nowhere_waits_while_it_is_stopped(self):
        gate = Gate(2, 1, 1, 1)
        gate.stop()
        gate.ask(0, [], [(3, 1, 2)])
        self.assert_told(gate, waiting=[1], outs=[])
        gate.stop()
        self.assert_told(gate, waiting=[1], outs=[])
        gate.go()
        self.assert_told(gate, waiting=[], outs=[(1, ("unfit", 3))])

    def test_a_look_wanted_ahead_of_a_stop_is_not_kept(self):
        gate = gate_with(3, hands=1)
        self.assert_told(gate, wanted=[(1,)])
        gate.stop()
        gate.go()
        self.assert_told(gate, wanted=[(1, 2, 3)])


class GrowthsAndCountsTest(GateTest):
    def test_growths_and_settled_looks_in_their_order(self):
        gate = gone_with(4, hands=3)
        self.assert_told(gate, wanted=[(1,), (1, 2), (1, 2, 3, 4)])
        gate.answer((1, 2, 3, 4), "unsure")
        gate.answer((1,), "yes")
        gate.answer((1, 2), "yes")
        self.assert_told(
            gate, growths=[(1,), (1, 2)], settled=[((1, 2, 3, 4), "unsure"), ((1,), "yes"), ((1, 2), "yes")],
            wanted=[(1, 2, 3)],
        )
        gate.answer((1, 2, 3), "no")
        self.assert_told(gate, outs=[(3, ("look", (1, 2), (1, 2, 3), "no"))], laid=[4], wanted=[(1, 2, 4)])
        gate.answer((1, 2, 4), "yes")
        self.assert_told(
            gate, growths=[(1,), (1, 2), (1, 2, 4)], line=[1, 2, 4],
            settled=[
                ((1, 2, 3, 4), "unsure"), ((1,), "yes"), ((1, 2), "yes"), ((1, 2, 3), "no"), ((1, 2, 4), "yes"),
            ],
        )

    def test_the_counts_behind_every_deed(self):
        gate = Gate(2, 1, 1, 2)
        for deed, handed, counts in (
            ("ask", (0, [], []), (0, 0, 0, 0, 0)),
            ("ask", (0, [], []), (0, 0, 0, 0, 0)),
            ("ask", (0, [], []), (0, 0, 0, 0, 0)),
            ("answer", ((1,), "unsure"), (0, 0, 1, 0, 0)),
            ("answer", ((1,), "yes"), (1, 0, 2, 0, 0)),
            ("go", (), (1, 0, 2, 0, 0)),
            ("withdraw", (3,), (1, 0, 2, 0, 1)),
            ("answer", ((1, 2), "unsure"), (1, 0, 3, 0, 1)),
            ("answer", ((1, 2), "unsure"), (1, 1, 4, 1, 1)),
            ("stop", (), (1, 1, 4, 1, 2)),
            ("stop", (), (1, 1, 4, 1, 3)),
            ("ask", (0, [2], []), (1, 1, 4, 1, 3)),
            ("ask", (0, [], []), (1, 1, 4, 1, 3)),
            ("go", (), (1, 1, 4, 1, 3)),
            ("go", (), (1, 1, 4, 1, 3)),
            ("answer", ((1, 5), "no"), (1, 2, 5, 2, 3)),
            ("ask", (0, [], [(0, 1, 2)]), (1, 2, 5, 2, 3)),
        ):
            getattr(gate, deed)(*handed)
            self.assertEqual(gate.counts(), counts, (deed, handed))
        self.assert_told(gate, outs=[
            (2, ("look", (1,), (1, 2), "unsure")), (3, ("withdrawn",)), (4, ("leans", 2)),
            (5, ("look", (1,), (1, 5), "no")), (6, ("unfit", 0)),
        ])

    def test_refused_deeds_are_not_counted(self):
        gate = gate_with(2)
        gate.answer((1,), "yes")
        for refusal, deed, handed in (
            (NoChange, "ask", (10, [], [])), (NoChange, "withdraw", (3,)), (TooLate, "withdraw", (1,)),
            (NoLook, "answer", ((1,), "yes")), (NoAnswer, "answer", ((1, 2), "more")),
        ):
            self.assert_refused(gate, refusal, deed, *handed)
        self.assert_told(gate, counts=(1, 0, 1, 0, 0))

    def test_counts_and_settings_are_tuples(self):
        gate = gate_with(2)
        self.assertIs(type(gate.counts()), tuple)
        self.assertIs(type(gate.settings()), tuple)


class TheAskersOwnTest(GateTest):
    def busy_gate(self):
        gate = Gate(3, 2, 1, 1)
        for rank, leans, edits in (
            (0, [], [(1, 0, 5)]), (0, [], []), (0, [], []), (0, [], [(1, 5, 6)]), (0, [], []), (0, [5], []), (0, [], []),
        ):
            gate.ask(rank, leans, edits)
        gate.answer((1,), "yes")
        gate.withdraw(5)
        gate.answer(gate.wanted()[-1], "no")
        return gate

    def test_the_kinds_of_what_is_told(self):
        gate = self.busy_gate()
        for name in ("line", "laid", "waiting", "outs", "wanted", "sheet", "growths", "settled"):
            told = getattr(gate, name)()
            self.assertIs(type(told), list, name)
            self.assertNotEqual(told, [], name)
        for number, ground in gate.outs():
            self.assertIs(type(ground), tuple)
        for look in gate.wanted() + gate.growths() + [look for look, word in gate.settled()]:
            self.assertIs(type(look), tuple)

    def test_a_ground_by_a_look_is_all_tuples(self):
        gate = gate_with(2)
        gate.answer((1,), "yes")
        gate.answer((1, 2), "no")
        self.assertEqual(gate.outs(), [(2, ("look", (1,), (1, 2), "no"))])
        self.assertIs(type(gate.outs()[0]), tuple)

    def test_a_told_list_that_is_changed_changes_nothing(self):
        gate = self.busy_gate()
        # Of another gate, as what this one tells is about to be changed.
        before = shown(self.busy_gate())
        for name in ("line", "laid", "waiting", "outs", "wanted", "sheet", "growths", "settled"):
            told = getattr(gate, name)()
            told.append(99)
            told.reverse()
            self.assertEqual(shown(gate), before, name)
            told.clear()
            self.assertEqual(shown(gate), before, name)

    def test_what_was_told_does_not_change_later(self):
        gate = self.busy_gate()
        told = shown(gate)
        kept = shown(self.busy_gate())
        gate.answer(gate.wanted()[0], "no")
        gate.ask(9, [], [])
        gate.stop()
        gate.go()
        self.assertNotEqual(shown(gate), kept)
        self.assertEqual(told, kept)

    def test_the_changes_are_the_askers_own(self):
        gate = self.busy_gate()
        before = shown(gate)
        told = gate.changes()
        self.assertEqual(told.added(9, [1, 7], [(0, 0, 1)]), 8)
        self.assertEqual(shown(gate), before)
        self.assertEqual(gate.ask(3, [], []), 8)
        self.assertEqual(told.rank_of(8), 9)
        self.assertEqual(gate.changes().rank_of(8), 3)

    def test_told_changes_do_not_grow_with_the_gate(self):
        gate = gate_with(2)
        told = gate.changes()
        gate.ask(0, [], [])
        self.assertEqual(told.many(), 2)
        self.assertEqual(gate.changes().many(), 3)

    def test_nothing_hangs_on_what_was_asked_before(self):
        asked = self.busy_gate()
        unasked = self.busy_gate()
        for turn in range(3):
            shown(asked)
        for gate in (asked, unasked):
            gate.answer(gate.wanted()[0], "no")
            gate.ask(0, [], [])
        self.assertEqual(shown(asked), shown(unasked))


if __name__ == "__main__":
    unittest.main()
