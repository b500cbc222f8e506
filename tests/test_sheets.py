"""Points 4 to 7, and point 2 for them: sheets and edits."""

import copy
import itertools
import random
import unittest

from linegate.errors import NoFit
from linegate.sheets import between, edited, joined, unfit, value_at, way_back

BILLION = 1000000000

# Every sheet over three slots and the values 0 to 2.
SMALL_SHEETS = [
    [(slot, value) for slot, value in zip((0, 5, 999), values) if value]
    for values in itertools.product(range(3), repeat=3)
]

# Every edits over two slots and the values 0 to 2.
SMALL_EDITS = [
    [(slot,) + pair for slot, pair in zip((0, 5), pairs) if pair]
    for pairs in itertools.product([None] + list(itertools.permutations(range(3), 2)), repeat=2)
]


class SheetsTestCase(unittest.TestCase):
    def assert_no_fit(self, slot, call, *given):
        with self.assertRaises(NoFit) as caught:
            call(*given)
        self.assertEqual(caught.exception.slot, slot)


class ValueAtTest(SheetsTestCase):
    def test_slots_that_a_sheet_has(self):
        sheet = [(0, 1), (7, 12), (999, BILLION)]
        self.assertEqual([value_at(sheet, slot) for slot in (0, 7, 999)], [1, 12, BILLION])

    def test_slots_that_it_has_not(self):
        sheet = [(1, 4), (7, 12), (998, BILLION)]
        self.assertEqual([value_at(sheet, slot) for slot in (0, 2, 6, 8, 997, 999)], [0] * 6)

    def test_the_empty_sheet(self):
        self.assertEqual([value_at([], slot) for slot in (0, 500, 999)], [0, 0, 0])

    def test_a_full_sheet(self):
        sheet = [(slot, slot + 1) for slot in range(1000)]
        self.assertEqual([value_at(sheet, slot) for slot in range(1000)], list(range(1, 1001)))


class UnfitTest(SheetsTestCase):
    def test_none_where_edits_fit(self):
        self.assertIsNone(unfit([(0, 1), (999, BILLION)], [(0, 1, 2), (4, 0, 3), (999, BILLION, 0)]))

    def test_no_edits_fit_every_sheet(self):
        for sheet in SMALL_SHEETS:
            self.assertIsNone(unfit(sheet, []))

    def test_the_empty_sheet(self):
        self.assertIsNone(unfit([], [(0, 0, 1), (999, 0, BILLION)]))
        self.assertEqual(unfit([], [(0, 0, 1), (999, BILLION, 0)]), 999)

    def test_slot_nought_is_told_as_a_slot(self):
        self.assertEqual(unfit([(0, 2)], [(0, 1, 2)]), 0)

    def test_the_least_slot_of_several(self):
        sheet = [(2, 5), (3, 5), (4, 5)]
        self.assertEqual(unfit(sheet, [(2, 5, 6), (3, 4, 6), (4, 4, 6)]), 3)

    def test_a_slot_that_is_filled_where_nothing_is_awaited(self):
        self.assertEqual(unfit([(8, 1)], [(8, 0, 2)]), 8)

    def test_a_slot_that_is_empty_where_something_is_awaited(self):
        self.assertEqual(unfit([(8, 1)], [(9, 1, 2)]), 9)

    def test_all_small_ones(self):
        for sheet, edits in itertools.product(SMALL_SHEETS, SMALL_EDITS):
            wrong = [slot for slot, old, new in edits if value_at(sheet, slot) != old]
            self.assertEqual(unfit(sheet, edits), wrong[0] if wrong else None)


class EditedTest(SheetsTestCase):
    def test_new_values_there_and_else_what_it_had(self):
        sheet = [(1, 4), (5, 2), (9, 9)]
        self.assertEqual(
            edited(sheet, [(0, 0, 3), (5, 2, BILLION), (999, 0, 1)]),
            [(0, 3), (1, 4), (5, BILLION), (9, 9), (999, 1)],
        )

    def test_an_edit_to_nought_leaves_the_slot_out(self):
        self.assertEqual(edited([(1, 4), (5, 2)], [(1, 4, 0)]), [(5, 2)])
        self.assertEqual(edited([(1, 4)], [(1, 4, 0)]), [])

    def test_no_edits(self):
        self.assertEqual(edited([(1, 4), (5, 2)], []), [(1, 4), (5, 2)])
        self.assertEqual(edited([], []), [])

    def test_refused_with_the_least_slot(self):
        sheet = [(1, 4), (5, 2), (9, 9)]
        self.assert_no_fit(5, edited, sheet, [(1, 4, 3), (5, 1, 3), (9, 8, 3)])
        self.assert_no_fit(0, edited, [], [(0, 1, 2)])
        self.assert_no_fit(999, edited, [], [(999, 1, 2)])

    def test_all_small_ones(self):
        for sheet, edits in itertools.product(SMALL_SHEETS, SMALL_EDITS):
            slot = unfit(sheet, edits)
            if slot is not None:
                self.assert_no_fit(slot, edited, sheet, edits)
                continue
            news = dict((slot, new) for slot, old, new in edits)
            values = [(slot, news.get(slot, value_at(sheet, slot))) for slot in (0, 5, 999)]
            self.assertEqual(edited(sheet, edits), [(slot, value) for slot, value in values if value])

    def test_a_thousand_tuples(self):
        filling = [(slot, 0, slot + 1) for slot in range(1000)]
        full = edited([], filling)
        self.assertEqual(full, [(slot, slot + 1) for slot in range(1000)])
        self.assertEqual(edited(full, way_back(filling)), [])


class WayBackTest(SheetsTestCase):
    def test_old_and_new_turned_about(self):
        self.assertEqual(
            way_back([(0, 0, 5), (3, BILLION, 2), (999, 4, 0)]),
            [(0, 5, 0), (3, 2, BILLION), (999, 0, 4)],
        )

    def test_no_edits(self):
        self.assertEqual(way_back([]), [])

    def test_the_way_back_of_the_way_back(self):
        for edits in SMALL_EDITS:
            self.assertEqual(way_back(way_back(edits)), edits)

    def test_it_leads_back(self):
        for sheet, edits in itertools.product(SMALL_SHEETS, SMALL_EDITS):
            if unfit(sheet, edits) is None:
                self.assertEqual(edited(edited(sheet, edits), way_back(edits)), sheet)


class JoinedTest(SheetsTestCase):
    def test_slots_of_just_one_stay(self):
        self.assertEqual(
            joined([(1, 0, 2), (7, 3, 4)], [(0, 5, 6), (4, 9, 0), (999, 0, BILLION)]),
            [(0, 5, 6), (1, 0, 2), (4, 9, 0), (7, 3, 4), (999, 0, BILLION)],
        )

    def test_slots_of_both(self):
        self.assertEqual(joined([(1, 0, 2), (2, 5, 6)], [(1, 2, 7), (2, 6, 0)]), [(1, 0, 7), (2, 5, 0)])

    def test_left_out_where_first_old_and_last_new_are_alike(self):
        self.assertEqual(joined([(1, 0, 2), (2, 5, 6)], [(1, 2, 0), (2, 6, 7)]), [(2, 5, 7)])

    def test_no_edits(self):
        self.assertEqual(joined([], []), [])
        self.assertEqual(joined([(1, 0, 2)], []), [(1, 0, 2)])
        self.assertEqual(joined([], [(1, 0, 2)]), [(1, 0, 2)])

    def test_refused_with_the_least_slot_that_does_not_follow(self):
        self.assert_no_fit(
            2, joined, [(0, 1, 2), (1, 0, 2), (2, 5, 6), (3, 1, 2)], [(1, 2, 7), (2, 5, 6), (3, 1, 2), (4, 1, 2)]
        )
        self.assert_no_fit(0, joined, [(0, 1, 2)], [(0, 1, 2)])
        self.assert_no_fit(999, joined, [(999, 1, 2)], [(999, 3, 1)])

    def test_edits_and_their_way_back_come_to_none(self):
        for edits in SMALL_EDITS:
            self.assertEqual(joined(edits, way_back(edits)), [])

    def test_all_small_ones(self):
        for one, other in itertools.product(SMALL_EDITS, SMALL_EDITS):
            firsts = {slot: (old, new) for slot, old, new in one}
            lasts = {slot: (old, new) for slot, old, new in other}
            wrong = [slot for slot in (0, 5) if slot in firsts and slot in lasts and firsts[slot][1] != lasts[slot][0]]
            if wrong:
                self.assert_no_fit(wrong[0], joined, one, other)
                continue
            whole = joined(one, other)
            for sheet in SMALL_SHEETS:
                if unfit(sheet, one) is None and unfit(edited(sheet, one), other) is None:
                    self.assertEqual(edited(sheet, whole), edited(edited(sheet, one), other))
            self.assertTrue(all(old != new for slot, old, new in whole))
            self.assertEqual([edit[0] for edit in whole], sorted({edit[0] for edit in whole}))


class BetweenTest(SheetsTestCase):
    def test_changed_emptied_filled_and_left(self):
        self.assertEqual(
            between([(0, 1), (2, 3), (4, 5)], [(0, BILLION), (4, 5), (999, 7)]),
            [(0, 1, BILLION), (2, 3, 0), (999, 0, 7)],
        )

    def test_a_sheet_and_itself(self):
        for sheet in SMALL_SHEETS:
            self.assertEqual(between(sheet, sheet), [])

    def test_from_and_to_the_empty_sheet(self):
        self.assertEqual(between([], [(3, 4), (8, 1)]), [(3, 0, 4), (8, 0, 1)])
        self.assertEqual(between([(3, 4), (8, 1)], []), [(3, 4, 0), (8, 1, 0)])
        self.assertEqual(between([], []), [])

    def test_all_small_ones(self):
        for sheet, other in itertools.product(SMALL_SHEETS, SMALL_SHEETS):
            edits = between(sheet, other)
            self.assertIsNone(unfit(sheet, edits))
            self.assertEqual(edited(sheet, edits), other)
            unlike = [slot for slot in (0, 5, 999) if value_at(sheet, slot) != value_at(other, slot)]
            self.assertEqual([edit[0] for edit in edits], unlike)

    def test_long_ones(self):
        chance = random.Random(7)
        for turn in range(20):
            sheet = [(slot, chance.randint(1, 3)) for slot in sorted(chance.sample(range(1000), 500))]
            other = [(slot, chance.randint(1, 3)) for slot in sorted(chance.sample(range(1000), 500))]
            self.assertEqual(edited(sheet, between(sheet, other)), other)


# Each function with what may be handed in to it; the answers are lists but for the first two.
CALLS = (
    (value_at, ([(1, 4), (5, 2)], 5)),
    (unfit, ([(1, 4), (5, 2)], [(1, 4, 3), (5, 1, 0)])),
    (edited, ([(1, 4), (5, 2)], [(1, 4, 3), (6, 0, 1)])),
    (edited, ([(1, 4), (5, 2)], [])),
    (way_back, ([(1, 4, 3), (6, 0, 1)],)),
    (joined, ([(1, 4, 3), (6, 0, 1)], [(1, 3, 5), (7, 0, 1)])),
    (joined, ([(1, 4, 3)], [])),
    (joined, ([], [(1, 4, 3)])),
    (between, ([(1, 4), (5, 2)], [(1, 3), (6, 1)])),
)

REFUSED_CALLS = (
    (edited, ([(1, 4), (5, 2)], [(1, 4, 3), (5, 1, 0)]), 5),
    (joined, ([(1, 4, 3), (6, 0, 1)], [(1, 3, 5), (6, 0, 1)]), 6),
)


def as_kinds(given, kinds):
    return tuple(kind(thing) if isinstance(thing, list) else thing for thing, kind in zip(given, kinds))


class PlainKindsTest(SheetsTestCase):
    def test_lists_and_tuples_side_by_side(self):
        for call, given in CALLS:
            told = call(*given)
            for kinds in itertools.product((list, tuple), repeat=len(given)):
                again = call(*as_kinds(given, kinds))
                self.assertEqual(again, told)
                self.assertIs(type(again), type(told))

    def test_lists_and_tuples_are_refused_alike(self):
        for call, given, slot in REFUSED_CALLS:
            for kinds in itertools.product((list, tuple), repeat=len(given)):
                self.assert_no_fit(slot, call, *as_kinds(given, kinds))

    def test_told_lists_hold_tuples(self):
        for call, given in CALLS[2:]:
            told = call(*given)
            self.assertIs(type(told), list)
            self.assertTrue(all(type(entry) is tuple for entry in told))

    def test_nothing_handed_in_is_changed(self):
        for call, given in CALLS:
            before = copy.deepcopy(given)
            call(*given)
            self.assertEqual(given, before)
        for call, given, slot in REFUSED_CALLS:
            before = copy.deepcopy(given)
            self.assert_no_fit(slot, call, *given)
            self.assertEqual(given, before)

    def test_what_is_told_is_the_askers_own(self):
        for call, given in CALLS[2:]:
            before = copy.deepcopy(given)
            told = call(*given)
            kept = list(told)
            told.append("more")
            told.reverse()
            self.assertEqual(given, before)
            self.assertEqual(call(*given), kept)

    def test_what_is_done_afterwards_to_what_was_handed_in(self):
        for call, given in CALLS[2:]:
            handed = copy.deepcopy(given)
            told = call(*handed)
            kept = list(told)
            for thing in handed:
                thing.clear()
            self.assertEqual(told, kept)


if __name__ == "__main__":
    unittest.main()
