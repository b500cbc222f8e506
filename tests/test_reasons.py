"""Point 25, and point 2 for it: why a change stands where it does."""

import unittest

from helper import Chance, gate_of, shown, told_or_refused
from linegate.errors import LinegateError, NoChange
from linegate.gate import Gate
from linegate.reasons import why


def why_by_the_document(gate, number):
    """Point 25 in its own words, from what the gate tells."""
    told = shown(gate)
    changes = dict(enumerate(told["changes"], 1))
    row = told["line"] + told["laid"]
    values = {}
    for one in row:
        values.update({slot: new for slot, old, new in changes[one][2]})

    def leans_free(one):
        return set(changes[one][1]) <= set(row)

    def unfit_slots(one):
        return [slot for slot, old, new in changes[one][2] if values.get(slot, 0) != old]

    if number in told["line"]:
        return ("in", told["line"].index(number))
    if number in dict(told["outs"]):
        return ("out", dict(told["outs"])[number])
    if number in told["laid"]:
        return ("laid", told["laid"].index(number))
    if told["stopped"]:
        return ("stopped",)
    if not leans_free(number):
        return ("leans", [lean for lean in changes[number][1] if lean not in row])
    if told["bad"] is not None:
        return ("halving", told["bad"])
    if unfit_slots(number):
        return ("unfit", min(unfit_slots(number)))
    can = [one for one in told["waiting"] if leans_free(one) and not unfit_slots(one)]
    ahead = [one for one in can if (-changes[one][0], one) < (-changes[number][0], number)]
    return ("turn", len(ahead))


class ReasonsTest(unittest.TestCase):
    def assert_why(self, gate, **reasons):
        """Each reason under the change's number behind an n."""
        before = shown(gate)
        for name, reason in reasons.items():
            self.assertEqual(why(gate, int(name[1:])), reason, name)
            self.assertIs(type(why(gate, int(name[1:]))), tuple)
        self.assertEqual(shown(gate), before)


class InTest(ReasonsTest):
    def test_places_on_the_line_from_0_on(self):
        gate = gate_of((3, 1, 1, 1), (1, [], []), (9, [], []), (5, [], []))
        gate.answer((2, 3, 1), "yes")
        self.assert_why(gate, n2=("in", 0), n3=("in", 1), n1=("in", 2))

    def test_it_stays_in_when_the_gate_is_stopped(self):
        gate = gate_of((3, 1, 1, 1), (0, [], []), (0, [], []))
        gate.answer((1, 2), "yes")
        gate.stop()
        self.assert_why(gate, n1=("in", 0), n2=("in", 1))


class OutTest(ReasonsTest):
    def test_withdrawn(self):
        gate = gate_of((3, 1, 1, 1), (0, [], []), (0, [], []))
        gate.withdraw(1)
        self.assert_why(gate, n1=("out", ("withdrawn",)))

    def test_leans(self):
        gate = gate_of((3, 1, 1, 1), (0, [], []), (0, [1], []), (0, [2], []))
        gate.withdraw(1)
        self.assert_why(gate, n2=("out", ("leans", 1)), n3=("out", ("leans", 2)))

    def test_unfit(self):
        gate = gate_of((3, 1, 1, 1), (0, [], [(3, 0, 1), (7, 1, 2), (8, 1, 2)]))
        self.assert_why(gate, n1=("out", ("unfit", 7)))

    def test_a_look(self):
        for word in ("no", "unsure"):
            gate = gate_of((1, 1, 1, 1), (0, [], []), (0, [], []))
            gate.answer((1,), "yes")
            gate.answer((1, 2), word)
            self.assert_why(gate, n1=("in", 0), n2=("out", ("look", (1,), (1, 2), word)))

    def test_out_comes_ahead_of_stopped(self):
        gate = gate_of((3, 1, 1, 1), (0, [], []), (0, [1], []))
        gate.stop()
        gate.withdraw(1)
        self.assert_why(gate, n1=("out", ("withdrawn",)), n2=("out", ("leans", 1)))


class LaidTest(ReasonsTest):
    def test_places_among_the_laid_ones_from_0_on(self):
        gate = gate_of((3, 1, 1, 1), (1, [], []), (9, [], []), (5, [], []))
        self.assert_why(gate, n2=("laid", 0), n3=("laid", 1), n1=("laid", 2))

    def test_behind_a_line(self):
        gate = gate_of((2, 2, 1, 1), (0, [], []), (0, [], []), (0, [], []))
        gate.answer((1,), "yes")
        self.assert_why(gate, n1=("in", 0), n2=("laid", 0), n3=("laid", 1))

    def test_also_where_a_place_is_bad(self):
        gate = gate_of((3, 1, 1, 1), (0, [], []), (0, [1], []), (0, [], [(3, 0, 1)]))
        gate.answer((1, 2, 3), "no")
        self.assert_why(gate, n1=("laid", 0), n2=("laid", 1), n3=("laid", 2))


class StoppedTest(ReasonsTest):
    def test_all_that_wait(self):
        gate = gate_of((2, 1, 1, 1), (0, [], []), (0, [], []), (9, [1], []))
        gate.stop()
        self.assert_why(gate, n1=("stopped",), n2=("stopped",), n3=("stopped",))

    def test_it_comes_ahead_of_all_other_grounds_to_wait(self):
        gate = Gate(1, 1, 1, 1)
        gate.stop()
        gate.ask(0, [], [])
        gate.ask(0, [1], [])
        gate.ask(0, [], [(3, 1, 2)])
        self.assert_why(gate, n1=("stopped",), n2=("stopped",), n3=("stopped",))
        gate.go()
        self.assert_why(gate, n1=("laid", 0), n2=("turn", 0), n3=("unfit", 3))


class LeansTest(ReasonsTest):
    def test_those_that_are_neither_on_the_line_nor_laid(self):
        gate = gate_of(
            (1, 1, 1, 1), (9, [], []), (8, [], []), (0, [], []), (0, [], []), (0, [1, 2, 3, 4], []), (0, [3], []),
        )
        self.assert_why(gate, n5=("leans", [2, 3, 4]), n6=("leans", [3]))
        gate.answer((1,), "yes")
        self.assert_why(gate, n1=("in", 0), n2=("laid", 0), n5=("leans", [3, 4]))
        gate.answer((1, 2), "yes")
        self.assert_why(gate, n5=("leans", [4]), n6=("turn", 1))

    def test_what_these_lean_on_does_not_count(self):
        gate = gate_of((1, 1, 1, 1), (9, [], []), (0, [], []), (0, [2], []), (0, [1, 3], []))
        self.assert_why(gate, n4=("leans", [3]))

    def test_it_comes_ahead_of_halving_and_unfit(self):
        gate = gate_of((2, 1, 1, 1), (9, [], []), (8, [], []), (0, [], []), (0, [3], [(3, 1, 2)]))
        self.assert_why(gate, n4=("leans", [3]))
        gate.answer((1, 2), "no")
        self.assert_why(gate, n3=("halving", 2), n4=("leans", [3]))

    def test_the_list_is_the_askers_own(self):
        gate = gate_of((1, 1, 1, 1), (9, [], []), (0, [], []), (0, [], []), (0, [1, 2, 3], []))
        before = shown(gate)
        told = why(gate, 4)
        self.assertIs(type(told[1]), list)
        told[1].append(99)
        told[1].reverse()
        self.assertEqual(why(gate, 4), ("leans", [2, 3]))
        self.assertEqual(shown(gate), before)
        self.assertEqual(gate.changes().leans_of(4), [1, 2, 3])
        kept = why(gate, 4)
        gate.answer((1,), "yes")
        self.assertEqual(kept, ("leans", [2, 3]))
        self.assertEqual(why(gate, 4), ("leans", [3]))


class HalvingTest(ReasonsTest):
    def test_the_bad_place_is_told(self):
        gate = gate_of((4, 1, 1, 1), *[(0, [], [])] * 6)
        self.assert_why(gate, n5=("turn", 0), n6=("turn", 1))
        gate.answer((1, 2, 3, 4), "no")
        self.assert_why(gate, n5=("halving", 4), n6=("halving", 4))
        gate.answer((1, 2), "unsure")
        self.assert_why(gate, n5=("halving", 2), n6=("halving", 2))

    def test_also_where_there_is_room(self):
        gate = gate_of((4, 1, 1, 1), (0, [], []), (0, [], []))
        gate.answer((1, 2), "no")
        gate.ask(9, [], [])
        self.assert_why(gate, n3=("halving", 2))

    def test_it_comes_ahead_of_unfit(self):
        gate = gate_of((2, 1, 1, 1), (0, [], []), (0, [], []), (0, [], [(3, 1, 2)]))
        self.assert_why(gate, n3=("unfit", 3))
        gate.answer((1, 2), "no")
        self.assert_why(gate, n3=("halving", 2))


class UnfitTest(ReasonsTest):
    def test_the_least_slot(self):
        gate = gate_of((4, 1, 1, 1), (0, [], []), (9, [], [(2, 0, 1), (5, 1, 2), (7, 3, 4)]))
        self.assert_why(gate, n2=("unfit", 5))

    def test_on_the_sheet_of_the_line_with_the_laid_ones(self):
        gate = gate_of(
            (2, 2, 1, 1), (9, [], [(3, 0, 1)]), (8, [], [(4, 0, 1)]), (0, [], [(3, 0, 2)]), (0, [], [(4, 0, 2)]),
        )
        self.assert_why(gate, n3=("unfit", 3), n4=("unfit", 4))
        gate.answer((1,), "yes")
        self.assert_why(gate, n1=("in", 0), n2=("laid", 0), n3=("unfit", 3), n4=("unfit", 4))

    def test_one_that_fits_the_line_and_not_the_laid_ones(self):
        gate = gate_of((2, 1, 1, 1), (9, [], [(3, 0, 1)]), (0, [], [(3, 0, 2)]))
        self.assert_why(gate, n2=("unfit", 3))

    def test_it_comes_ahead_of_turn(self):
        gate = gate_of((1, 1, 1, 1), (9, [], []), (8, [], [(3, 5, 6)]), (0, [], []))
        self.assert_why(gate, n2=("unfit", 3), n3=("turn", 0))


class TurnTest(ReasonsTest):
    def test_by_rank_then_number(self):
        gate = gate_of((1, 1, 1, 1), (9, [], []), (3, [], []), (5, [], []), (3, [], []), (7, [], []), (0, [], []))
        self.assert_why(
            gate, n1=("laid", 0), n5=("turn", 0), n3=("turn", 1), n2=("turn", 2), n4=("turn", 3), n6=("turn", 4),
        )

    def test_only_those_that_can_be_laid_come_ahead(self):
        gate = gate_of(
            (1, 1, 1, 1), (9, [], [(3, 0, 1)]), (8, [], [(3, 0, 2)]), (5, [], []), (7, [3], []), (6, [1], []),
            (6, [], [(3, 1, 4)]), (2, [], []),
        )
        self.assert_why(
            gate, n2=("unfit", 3), n3=("turn", 2), n4=("leans", [3]), n5=("turn", 0), n6=("turn", 1), n7=("turn", 3),
        )

    def test_the_one_next_in_turn_is_laid_next(self):
        gate = gate_of((1, 1, 1, 1), (9, [], []), (3, [], []), (5, [], []), (3, [], []))
        self.assert_why(gate, n3=("turn", 0), n2=("turn", 1), n4=("turn", 2))
        gate.answer((1,), "yes")
        self.assert_why(gate, n3=("laid", 0), n2=("turn", 0), n4=("turn", 1))

    def test_many(self):
        gate = gate_of((16, 8, 1, 1), *[(number % 10, [], []) for number in range(60)])
        turns = [why(gate, number) for number in gate.waiting()]
        self.assertEqual(sorted(turns), [("turn", ahead) for ahead in range(44)])


class NoChangeTest(ReasonsTest):
    def test_numbers_that_are_no_changes(self):
        for many in (0, 1, 4, 60):
            gate = gate_of((3, 1, 1, 1), *[(0, [], [])] * many)
            before = shown(gate)
            for number in (0, -1, -many, many + 1, many + 2, 61, 10 ** 12):
                with self.subTest(many=many, number=number):
                    with self.assertRaises(LinegateError) as caught:
                        why(gate, number)
                    self.assertIs(caught.exception.__class__, NoChange)
                    self.assertEqual(shown(gate), before)

    def test_the_first_and_the_last_are_changes(self):
        gate = gate_of((3, 1, 1, 1), *[(0, [], [])] * 60)
        self.assert_why(gate, n1=("laid", 0), n60=("turn", 56))


class ChanceTest(ReasonsTest):
    def test_against_the_words_of_the_document(self):
        met = set()
        for seed in range(40):
            chance = Chance(seed, 4, (40, 5, 50, 3, 7, 0))
            gate = Gate(*chance.settings())
            for turn in range(50):
                deed = chance.deed(gate)
                told_or_refused(getattr(gate, deed[0]), *deed[1:])
                before = shown(gate)
                for number in range(1, gate.changes().many() + 1):
                    reason = why(gate, number)
                    self.assertEqual(reason, why_by_the_document(gate, number))
                    met.add(reason[0] if reason[0] != "out" else "out " + reason[1][0])
                    if reason[0] == "turn":
                        self.assertEqual(len(gate.laid()), gate.settings()[0])
                self.assertEqual(shown(gate), before)
        self.assertEqual(met, {
            "in", "laid", "stopped", "leans", "halving", "unfit", "turn",
            "out withdrawn", "out leans", "out unfit", "out look",
        })


if __name__ == "__main__":
    unittest.main()
