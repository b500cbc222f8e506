"""Point 20: how the gate settles itself behind each deed."""

import unittest

from helper import gate_of
from linegate.gate import Gate


def plain_gate(settings, many):
    return gate_of(settings, *[(0, [], [])] * many)


class SettlingTest(unittest.TestCase):
    def assert_told(self, gate, **parts):
        for name, part in parts.items():
            self.assertEqual(getattr(gate, name)(), part, name)


class LeaningTest(SettlingTest):
    def test_a_chain_on_one_that_is_withdrawn(self):
        gate = gate_of(
            (1, 1, 1, 1), (9, [], []), (0, [], []), (0, [2], []), (0, [3], []), (0, [2, 4], []), (0, [1], []),
        )
        self.assert_told(gate, laid=[1], waiting=[2, 3, 4, 5, 6])
        gate.withdraw(2)
        self.assert_told(
            gate, laid=[1], waiting=[6],
            outs=[(2, ("withdrawn",)), (3, ("leans", 2)), (4, ("leans", 3)), (5, ("leans", 2))],
        )

    def test_the_least_of_those_that_are_out_is_told(self):
        gate = gate_of((4, 1, 1, 1), (0, [], []), (0, [], []), (0, [], []), (0, [], []))
        gate.withdraw(3)
        gate.withdraw(2)
        gate.ask(0, [1, 2, 3, 4], [])
        gate.ask(0, [1, 3, 4], [])
        gate.ask(0, [5, 6], [])
        self.assert_told(gate, outs=[
            (2, ("withdrawn",)), (3, ("withdrawn",)), (5, ("leans", 2)), (6, ("leans", 3)), (7, ("leans", 5)),
        ])

    def test_a_chain_on_one_that_is_out_by_a_look(self):
        gate = gate_of((3, 1, 1, 1), (0, [], []), (0, [1], []), (0, [2], []), (0, [], []))
        self.assert_told(gate, laid=[1, 2, 3], waiting=[4], wanted=[(1, 2, 3)])
        gate.answer((1, 2, 3), "no")
        gate.answer((1,), "no")
        self.assert_told(
            gate, outs=[(1, ("look", (), (1,), "no")), (2, ("leans", 1)), (3, ("leans", 2))], laid=[4], waiting=[],
        )

    def test_a_chain_on_one_that_fits_nowhere(self):
        gate = gate_of((3, 1, 1, 1), (0, [], [(7, 1, 2)]), (0, [1], []), (0, [2], []))
        self.assert_told(
            gate, outs=[(1, ("unfit", 7)), (2, ("leans", 1)), (3, ("leans", 2))], laid=[], waiting=[], wanted=[],
        )

    def test_also_while_the_gate_is_stopped(self):
        gate = gate_of((3, 1, 1, 1), (0, [], []), (0, [1], []), (0, [2], []), (0, [], []))
        gate.stop()
        gate.withdraw(1)
        self.assert_told(
            gate, outs=[(1, ("withdrawn",)), (2, ("leans", 1)), (3, ("leans", 2))], laid=[], waiting=[4], wanted=[],
        )
        gate.ask(0, [3, 4], [])
        self.assert_told(gate, waiting=[4])
        self.assertEqual(gate.outs()[-1], (5, ("leans", 3)))

    def test_laid_ones_that_lean_on_one_withdrawn(self):
        gate = gate_of((4, 1, 1, 1), (0, [], []), (0, [1], []), (0, [], []), (0, [2], []))
        self.assert_told(gate, laid=[1, 2, 3, 4])
        gate.withdraw(1)
        self.assert_told(
            gate, laid=[3], waiting=[], outs=[(1, ("withdrawn",)), (2, ("leans", 1)), (4, ("leans", 2))],
        )


class FillingTest(SettlingTest):
    def test_an_ask_is_laid_at_once_where_there_is_room(self):
        gate = Gate(2, 1, 1, 1)
        gate.ask(0, [], [])
        self.assert_told(gate, laid=[1], waiting=[])
        gate.ask(9, [], [])
        self.assert_told(gate, laid=[1, 2], waiting=[])
        gate.ask(9, [], [])
        self.assert_told(gate, laid=[1, 2], waiting=[3])

    def test_nothing_is_filled_up_where_a_place_is_bad(self):
        gate = plain_gate((4, 1, 1, 1), 2)
        gate.answer((1, 2), "no")
        self.assert_told(gate, bad=2, laid=[1, 2])
        gate.ask(9, [], [])
        self.assert_told(gate, bad=2, laid=[1, 2], waiting=[3], wanted=[(1,)])
        gate.answer((1,), "yes")
        self.assert_told(
            gate, line=[1], outs=[(2, ("look", (1,), (1, 2), "no"))], laid=[3], waiting=[], bad=None, wanted=[(1, 3)],
        )

    def test_the_ones_left_laid_are_not_filled_up_while_a_place_is_bad(self):
        gate = plain_gate((4, 1, 1, 1), 6)
        gate.answer((1, 2, 3, 4), "no")
        gate.answer((1, 2), "yes")
        self.assert_told(gate, line=[1, 2], laid=[3, 4], waiting=[5, 6], bad=2, wanted=[(1, 2, 3)])

    def test_filled_up_to_the_width_whatever_is_bad_behind_it(self):
        gate = plain_gate((4, 1, 1, 1), 2)
        gate.answer((1, 2), "no")
        gate.ask(0, [], [])
        gate.ask(0, [], [])
        self.assert_told(gate, laid=[1, 2], waiting=[3, 4])
        gate.stop()
        gate.go()
        self.assert_told(gate, laid=[1, 2, 3, 4], waiting=[], bad=2, wanted=[(1,)])

    def test_a_withdrawal_that_takes_the_bad_place_away(self):
        gate = plain_gate((2, 1, 1, 1), 4)
        gate.answer((1, 2), "no")
        self.assert_told(gate, bad=2, wanted=[(1,)], waiting=[3, 4])
        gate.withdraw(2)
        self.assert_told(gate, bad=None, laid=[1, 3], waiting=[4], wanted=[(1,)])

    def test_a_withdrawal_behind_the_bad_place_leaves_it_bad(self):
        gate = plain_gate((3, 2, 1, 1), 4)
        gate.answer((1,), "yes")
        self.assert_told(gate, laid=[2, 3, 4], wanted=[(1, 2, 3), (1, 2, 3, 4)])
        gate.answer((1, 2, 3), "unsure")
        gate.withdraw(4)
        self.assert_told(gate, laid=[2, 3], bad=2, wanted=[(1, 2)])
        gate.ask(0, [], [])
        self.assert_told(gate, laid=[2, 3], waiting=[5])

    def test_the_greatest_rank_is_laid_anew_first(self):
        gate = gate_of((2, 1, 1, 1), (5, [], []), (4, [], []))
        gate.ask(9, [], [])
        gate.ask(8, [], [])
        self.assert_told(gate, laid=[1, 2], waiting=[3, 4])
        gate.withdraw(1)
        self.assert_told(gate, laid=[3, 4], waiting=[2])


class FirstLaidOutTest(SettlingTest):
    def test_the_first_laid_one_is_out_by_its_look(self):
        for word in ("no", "unsure"):
            gate = plain_gate((1, 1, 1, 1), 2)
            gate.answer((1,), word)
            self.assert_told(
                gate, outs=[(1, ("look", (), (1,), word))], laid=[2], waiting=[], wanted=[(2,)], bad=None,
                counts=(0, 1, 1, 1, 1),
            )

    def test_the_grounds_two_looks_on_a_line(self):
        gate = plain_gate((2, 2, 1, 1), 4)
        gate.answer((1, 2), "yes")
        gate.answer((1, 2, 3), "unsure")
        self.assert_told(gate, line=[1, 2], outs=[(3, ("look", (1, 2), (1, 2, 3), "unsure"))], laid=[4])

    def test_the_word_is_that_of_the_first_place(self):
        gate = plain_gate((2, 2, 1, 1), 2)
        gate.answer((1, 2), "unsure")
        gate.answer((1,), "no")
        self.assert_told(gate, outs=[(1, ("look", (), (1,), "no"))], laid=[2])
        gate = plain_gate((2, 2, 1, 1), 2)
        gate.answer((1, 2), "no")
        gate.answer((1,), "yes")
        self.assert_told(gate, line=[1], outs=[(2, ("look", (1,), (1, 2), "no"))], laid=[])

    def test_a_yes_makes_the_next_one_the_bad_first(self):
        gate = plain_gate((4, 1, 1, 1), 4)
        gate.answer((1, 2, 3, 4), "no")
        gate.answer((1, 2), "no")
        gate.answer((1,), "yes")
        self.assert_told(
            gate, line=[1], outs=[(2, ("look", (1,), (1, 2), "no"))], laid=[3, 4], waiting=[], wanted=[(1, 3, 4)],
            settled=[((1, 2, 3, 4), "no"), ((1, 2), "no"), ((1,), "yes")],
        )

    def test_those_behind_it_wait_again_and_are_laid_anew(self):
        gate = gate_of((3, 1, 1, 1), (5, [], []), (1, [], []), (2, [], []))
        self.assert_told(gate, laid=[1, 3, 2])
        gate.ask(9, [], [])
        gate.answer((1, 3, 2), "no")
        self.assert_told(gate, waiting=[4], wanted=[(1,)])
        gate.answer((1,), "no")
        self.assert_told(gate, laid=[4, 3, 2], waiting=[], wanted=[(4, 3, 2)])

    def test_it_begins_again_till_no_first_one_is_bad(self):
        gate = plain_gate((1, 1, 1, 1), 2)
        gate.answer((1,), "no")
        gate.answer((2,), "no")
        self.assert_told(
            gate, outs=[(1, ("look", (), (1,), "no")), (2, ("look", (), (2,), "no"))], laid=[], wanted=[],
        )

    def test_one_put_out_behind_another_in_one_deed(self):
        gate = gate_of((2, 1, 1, 1), (0, [], []), (0, [], [(5, 0, 1)]), (0, [], [(5, 1, 2)]), (0, [2], []))
        gate.answer((1, 2), "yes")
        self.assert_told(gate, laid=[3, 4])
        gate = gate_of((1, 1, 1, 1), (0, [], [(5, 0, 1)]), (0, [], [(5, 1, 2)]), (0, [2], []), (0, [], []))
        self.assert_told(gate, laid=[1], waiting=[2, 3, 4])
        gate.answer((1,), "no")
        self.assert_told(gate, laid=[4], waiting=[2, 3])
        gate.answer((4,), "unsure")
        self.assert_told(
            gate, laid=[], waiting=[], wanted=[], counts=(0, 2, 2, 2, 1),
            outs=[
                (1, ("look", (), (1,), "no")), (2, ("unfit", 5)), (3, ("leans", 2)), (4, ("look", (), (4,), "unsure")),
            ],
        )

    def test_a_bad_look_of_the_past_puts_out_again(self):
        gate = plain_gate((3, 3, 1, 1), 3)
        gate.answer((1, 2), "no")
        self.assert_told(gate, bad=2, wanted=[(1,)])
        gate.stop()
        gate.withdraw(3)
        gate.go()
        self.assert_told(gate, laid=[1, 2], bad=2, wanted=[(1,)])
        gate.answer((1,), "yes")
        self.assert_told(gate, line=[1], outs=[(2, ("look", (1,), (1, 2), "no")), (3, ("withdrawn",))])


class UnfitTest(SettlingTest):
    def test_the_least_slot_is_told(self):
        gate = Gate(2, 1, 1, 1)
        gate.ask(0, [], [(3, 0, 1), (5, 4, 0), (7, 2, 3)])
        self.assert_told(gate, outs=[(1, ("unfit", 5))])

    def test_the_slot_is_that_of_the_lines_sheet(self):
        gate = Gate(2, 1, 1, 1)
        gate.ask(0, [], [(3, 0, 1), (5, 0, 4)])
        gate.answer((1,), "yes")
        gate.ask(0, [], [(3, 1, 2), (5, 4, 0), (7, 2, 3)])
        gate.ask(0, [1], [(3, 0, 2)])
        self.assert_told(gate, outs=[(2, ("unfit", 7)), (3, ("unfit", 3))])

    def test_all_that_lean_free_are_out_together(self):
        gate = gate_of((2, 1, 1, 1), (0, [], [(3, 1, 2)]), (0, [], [(4, 1, 2)]), (9, [], [(5, 1, 0), (6, 0, 1)]))
        self.assert_told(
            gate, outs=[(1, ("unfit", 3)), (2, ("unfit", 4)), (3, ("unfit", 5))], waiting=[], laid=[], wanted=[],
        )

    def test_one_that_does_not_lean_free_is_out_by_what_it_leans_on(self):
        gate = gate_of((2, 1, 1, 1), (0, [], [(3, 1, 2)]), (0, [1], [(3, 7, 8)]), (0, [], [(3, 9, 8)]))
        self.assert_told(gate, outs=[(1, ("unfit", 3)), (2, ("leans", 1)), (3, ("unfit", 3))])

    def test_while_some_is_laid_it_waits(self):
        gate = gate_of((2, 1, 1, 1), (0, [], []), (0, [], [(3, 1, 2)]))
        self.assert_told(gate, laid=[1], waiting=[2], outs=[])
        gate.ask(0, [], [(3, 5, 6)])
        self.assert_told(gate, laid=[1], waiting=[2, 3], outs=[])
        gate.answer((1,), "yes")
        self.assert_told(gate, line=[1], laid=[], waiting=[], outs=[(2, ("unfit", 3)), (3, ("unfit", 3))])

    def test_one_that_fits_behind_a_laid_one_is_laid(self):
        gate = gate_of((2, 1, 1, 1), (0, [], [(3, 1, 2)]), (0, [], [(3, 0, 1)]))
        self.assert_told(gate, laid=[2, 1], outs=[])

    def test_one_that_fits_as_soon_as_the_line_grew_waits_for_it(self):
        gate = gate_of((1, 1, 1, 1), (0, [], [(3, 1, 2)]), (0, [], [(3, 0, 1)]))
        self.assert_told(gate, laid=[2], waiting=[1])
        gate.answer((2,), "yes")
        self.assert_told(gate, line=[2], laid=[1], outs=[])

    def test_two_that_want_the_same_slot(self):
        gate = gate_of((2, 1, 1, 1), (0, [], [(3, 0, 1)]), (0, [], [(3, 0, 2)]))
        self.assert_told(gate, laid=[1], waiting=[2])
        gate.answer((1,), "yes")
        self.assert_told(gate, line=[1], outs=[(2, ("unfit", 3))])
        gate = gate_of((2, 1, 1, 1), (0, [], [(3, 0, 1)]), (0, [], [(3, 0, 2)]))
        gate.answer((1,), "no")
        self.assert_told(gate, line=[], laid=[2], outs=[(1, ("look", (), (1,), "no"))])

    def test_an_unfit_one_is_not_counted_as_out_by_a_look(self):
        gate = gate_of((2, 1, 1, 1), (0, [], [(3, 1, 2)]))
        self.assert_told(gate, counts=(0, 0, 0, 0, 1))


class WantedTest(SettlingTest):
    def test_the_shortest_first(self):
        gate = plain_gate((8, 4, 1, 1), 8)
        self.assert_told(gate, wanted=[(1, 2), (1, 2, 3, 4), (1, 2, 3, 4, 5, 6), (1, 2, 3, 4, 5, 6, 7, 8)])

    def test_one_hand_halves(self):
        gate = plain_gate((8, 1, 1, 1), 8)
        self.assert_told(gate, wanted=[(1, 2, 3, 4, 5, 6, 7, 8)])
        gate.answer((1, 2, 3, 4, 5, 6, 7, 8), "no")
        self.assert_told(gate, wanted=[(1, 2, 3, 4)])
        gate.answer((1, 2, 3, 4), "yes")
        self.assert_told(gate, line=[1, 2, 3, 4], bad=4, wanted=[(1, 2, 3, 4, 5, 6)])
        gate.answer((1, 2, 3, 4, 5, 6), "no")
        self.assert_told(gate, bad=2, wanted=[(1, 2, 3, 4, 5)])
        gate.answer((1, 2, 3, 4, 5), "no")
        self.assert_told(gate, laid=[6, 7, 8], wanted=[(1, 2, 3, 4, 6, 7, 8)])
        self.assert_told(gate, outs=[(5, ("look", (1, 2, 3, 4), (1, 2, 3, 4, 5), "no"))])

    def test_looks_are_kept_while_more_ask(self):
        gate = Gate(4, 1, 1, 1)
        for turn in range(4):
            gate.ask(0, [], [])
            self.assert_told(gate, wanted=[(1,)])
        gate = Gate(4, 2, 1, 1)
        for wanted in ([(1,)], [(1,), (1, 2)], [(1,), (1, 2)], [(1,), (1, 2)]):
            gate.ask(0, [], [])
            self.assert_told(gate, wanted=wanted)

    def test_longer_looks_are_kept_behind_a_yes(self):
        gate = plain_gate((8, 3, 1, 1), 12)
        self.assert_told(gate, wanted=[(1, 2), (1, 2, 3, 4), (1, 2, 3, 4, 5, 6, 7, 8)])
        gate.answer((1, 2), "yes")
        self.assert_told(gate, laid=[3, 4, 5, 6, 7, 8, 9, 10], waiting=[11, 12])
        self.assert_told(gate, wanted=[
            (1, 2, 3, 4), (1, 2, 3, 4, 5, 6, 7, 8), (1, 2, 3, 4, 5, 6, 7, 8, 9, 10),
        ])

    def test_shorter_looks_are_not_kept_behind_a_yes(self):
        gate = plain_gate((4, 3, 1, 1), 6)
        self.assert_told(gate, wanted=[(1,), (1, 2), (1, 2, 3, 4)])
        gate.answer((1, 2), "yes")
        self.assert_told(gate, wanted=[(1, 2, 3), (1, 2, 3, 4), (1, 2, 3, 4, 5, 6)])
        gate = plain_gate((4, 3, 1, 1), 4)
        gate.answer((1, 2, 3, 4), "yes")
        self.assert_told(gate, wanted=[])

    def test_looks_below_a_bad_place_are_kept_and_those_above_are_not(self):
        gate = plain_gate((8, 3, 1, 1), 8)
        gate.answer((1, 2, 3, 4), "no")
        self.assert_told(gate, bad=4, wanted=[(1,), (1, 2), (1, 2, 3)])
        gate = plain_gate((8, 2, 1, 1), 8)
        self.assert_told(gate, wanted=[(1, 2, 3, 4), (1, 2, 3, 4, 5, 6, 7, 8)])
        gate.answer((1, 2, 3, 4, 5, 6, 7, 8), "no")
        self.assert_told(gate, wanted=[(1, 2), (1, 2, 3, 4)])

    def test_looks_with_one_withdrawn_are_not_kept(self):
        gate = plain_gate((4, 2, 2, 3), 6)
        self.assert_told(gate, wanted=[(1, 2), (1, 2, 3, 4)])
        gate.answer((1, 2), "yes")
        gate.withdraw(3)
        self.assert_told(gate, laid=[1, 2, 4, 5], wanted=[(1, 2), (1, 2, 4, 5)])
        gate.withdraw(1)
        self.assert_told(gate, laid=[2, 4, 5, 6], wanted=[(2, 4), (2, 4, 5, 6)])

    def test_a_look_is_kept_where_the_same_ones_are_laid_anew(self):
        gate = gate_of((3, 1, 1, 1), (9, [], []), (8, [], []), (0, [], []))
        self.assert_told(gate, wanted=[(1, 2, 3)])
        gate.withdraw(3)
        self.assert_told(gate, laid=[1, 2], wanted=[(1, 2)])
        gate.ask(0, [], [])
        self.assert_told(gate, laid=[1, 2, 4], wanted=[(1, 2)])
        gate.withdraw(4)
        self.assert_told(gate, laid=[1, 2], wanted=[(1, 2)])

    def test_a_look_that_was_not_wanted_just_ahead_is_not_kept(self):
        gate = plain_gate((4, 1, 2, 3), 4)
        gate.answer((1, 2, 3, 4), "no")
        gate.stop()
        gate.ask(9, [], [])
        gate.go()
        self.assert_told(gate, laid=[5, 1, 2, 3], wanted=[(5, 1, 2, 3)])
        gate.withdraw(5)
        self.assert_told(gate, laid=[1, 2, 3, 4], wanted=[(1, 2, 3, 4)])
        gate.answer((1, 2, 3, 4), "no")
        self.assert_told(gate, bad=4, wanted=[(1, 2)])


if __name__ == "__main__":
    unittest.main()
