"""Points 8 to 10, and point 2 for them: changes and rows."""

import itertools
import random
import unittest

from linegate.changes import Changes, keeps, sheet_of, stands
from linegate.errors import NoChange, NoFit, TooMany
from linegate.sheets import edited, unfit

BILLION = 1000000000


def shown(changes):
    """All that changes tell of themselves."""
    return [
        (
            changes.rank_of(number), changes.leans_of(number), changes.edits_of(number),
            changes.over(number), changes.under(number),
        )
        for number in range(1, changes.many() + 1)
    ]


def leaning(*leans):
    """Changes without edits, of these leans."""
    changes = Changes()
    for each in leans:
        changes.added(0, each, [])
    return changes


def editing(*pairs):
    """Changes of these pairs of leans and edits."""
    changes = Changes()
    for leans, edits in pairs:
        changes.added(0, leans, edits)
    return changes


def rows_of(many):
    """Every row of some of the numbers up to many."""
    numbers = range(1, many + 1)
    return [list(row) for size in range(many + 1) for row in itertools.permutations(numbers, size)]


class AddedTest(unittest.TestCase):
    def setUp(self):
        self.changes = Changes()
        self.changes.added(3, [], [(0, 0, 1)])
        self.changes.added(9, [1], [])

    def assert_refused(self, refusal, rank, leans, edits):
        before = shown(self.changes)
        with self.assertRaises(refusal):
            self.changes.added(rank, leans, edits)
        self.assertEqual(shown(self.changes), before)

    def test_none_to_begin_with(self):
        self.assertEqual(Changes().many(), 0)

    def test_numbers_from_one_on(self):
        changes = Changes()
        self.assertEqual([changes.added(0, [], []) for turn in range(4)], [1, 2, 3, 4])
        self.assertEqual(changes.many(), 4)

    def test_what_was_added_is_told(self):
        edits = [(0, 0, BILLION), (4, 7, 2), (999, BILLION, 0)]
        number = self.changes.added(5, [1, 2], edits)
        self.assertEqual(number, 3)
        self.assertEqual(self.changes.rank_of(3), 5)
        self.assertEqual(self.changes.leans_of(3), [1, 2])
        self.assertEqual(self.changes.edits_of(3), edits)
        self.assertEqual(self.changes.rank_of(1), 3)
        self.assertEqual(self.changes.leans_of(1), [])
        self.assertEqual(self.changes.edits_of(2), [])

    def test_two_objects_have_nothing_in_common(self):
        self.assertEqual(Changes().added(0, [], []), 1)
        self.assertEqual(self.changes.many(), 2)

    def test_every_rank(self):
        changes = Changes()
        for rank in range(10):
            self.assertEqual(changes.rank_of(changes.added(rank, [], [])), rank)

    def test_ranks_refused(self):
        for rank in (-1, 10, 1000, -BILLION, True, False):
            self.assert_refused(NoChange, rank, [], [])

    def test_leans_refused(self):
        for leans in ([0], [-1], [3], [4], [1, 3], [0, 1], [1, 1], [2, 2], [2, 1], [1, 2, 1], [True]):
            self.assert_refused(NoChange, 0, leans, [])
            self.assert_refused(NoChange, 0, tuple(leans), [])

    def test_a_first_change_leans_on_none(self):
        self.changes = Changes()
        self.assert_refused(NoChange, 0, [1], [])
        self.assert_refused(NoChange, 0, [0], [])

    def test_edits_refused(self):
        for edits in (
            [(-1, 0, 1)], [(1000, 0, 1)], [(3, 0, 1), (1000, 0, 1)],
            [(3, 0, 1), (3, 1, 2)], [(3, 0, 1), (3, 0, 1)], [(4, 0, 1), (3, 0, 1)],
            [(1, 0, 1), (3, 0, 1), (2, 0, 1)],
            [(3, 0, 0)], [(3, 5, 5)], [(2, 0, 1), (3, BILLION, BILLION)],
            [(3, -1, 1)], [(3, 1, -1)], [(3, 0, BILLION + 1)], [(3, BILLION + 1, 0)],
            [(True, 0, 1)], [(3, True, 2)], [(3, 0, True)],
        ):
            self.assert_refused(NoChange, 0, [], edits)
            self.assert_refused(NoChange, 0, [], tuple(edits))

    def test_edits_at_their_bounds(self):
        for edits in ([(0, 0, 1)], [(999, 1, 0)], [(3, 0, BILLION)], [(3, BILLION, 0)], [(3, 4, 5), (4, 4, 5)]):
            self.assertEqual(self.changes.edits_of(self.changes.added(0, [], edits)), edits)

    def test_twenty_edits_and_one_more(self):
        edits = [(slot, 0, 1) for slot in range(21)]
        self.assert_refused(NoChange, 0, [], edits)
        self.assertEqual(self.changes.edits_of(self.changes.added(0, [], edits[:20])), edits[:20])

    def test_a_refused_one_takes_no_number(self):
        self.assert_refused(NoChange, 10, [], [])
        self.assertEqual(self.changes.added(0, [], []), 3)

    def test_sixty_changes_and_one_more(self):
        for number in range(3, 61):
            self.assertEqual(self.changes.added(0, [number - 1], []), number)
        self.assertEqual(self.changes.many(), 60)
        self.assert_refused(TooMany, 0, [], [])
        self.assert_refused(TooMany, 9, list(range(1, 61)), [(0, 0, 1)])
        self.assertEqual(self.changes.many(), 60)

    def test_no_change_comes_ahead_of_too_many(self):
        for number in range(3, 61):
            self.changes.added(0, [], [])
        for rank, leans, edits in (
            (10, [], []), (-1, [], []), (0, [0], []), (0, [61], []), (0, [1, 1], []), (0, [2, 1], []),
            (0, [], [(1000, 0, 1)]), (0, [], [(0, 1, 1)]), (0, [], [(slot, 0, 1) for slot in range(21)]),
        ):
            self.assert_refused(NoChange, rank, leans, edits)


class OverAndUnderTest(unittest.TestCase):
    def test_a_chain(self):
        changes = leaning([], [1], [2], [3])
        self.assertEqual([changes.over(number) for number in (1, 2, 3, 4)], [[2, 3, 4], [3, 4], [4], []])
        self.assertEqual([changes.under(number) for number in (1, 2, 3, 4)], [[], [1], [1, 2], [1, 2, 3]])

    def test_a_change_met_by_two_ways(self):
        changes = leaning([], [1], [1], [2, 3])
        self.assertEqual(changes.over(1), [2, 3, 4])
        self.assertEqual(changes.under(4), [1, 2, 3])

    def test_the_way_through_numbers_between(self):
        changes = leaning([], [], [1], [2], [3], [4])
        self.assertEqual(changes.over(1), [3, 5])
        self.assertEqual(changes.over(2), [4, 6])
        self.assertEqual(changes.under(5), [1, 3])
        self.assertEqual(changes.under(6), [2, 4])

    def test_a_lone_change(self):
        changes = leaning([], [], [])
        for number in (1, 2, 3):
            self.assertEqual(changes.over(number), [])
            self.assertEqual(changes.under(number), [])

    def test_leans_are_told_without_what_is_under_them(self):
        self.assertEqual(leaning([], [1], [2]).leans_of(3), [2])

    def test_later_ones_are_met_too(self):
        changes = leaning([], [1])
        self.assertEqual(changes.over(1), [2])
        changes.added(0, [2], [])
        self.assertEqual(changes.over(1), [2, 3])

    def test_against_the_words_of_the_document(self):
        chance = random.Random(9)
        for turn in range(30):
            many = chance.randint(1, 12)
            changes = Changes()
            for number in range(1, many + 1):
                changes.added(0, [lean for lean in range(1, number) if chance.random() < 0.25], [])
            pairs = {(upper, lower) for upper in range(1, many + 1) for lower in changes.leans_of(upper)}
            for turn in range(many):
                pairs |= {(a, d) for a, b in pairs for c, d in pairs if b == c}
            for number in range(1, many + 1):
                self.assertEqual(changes.over(number), sorted(a for a, b in pairs if b == number))
                self.assertEqual(changes.under(number), sorted(b for a, b in pairs if a == number))
                self.assertNotIn(number, changes.over(number) + changes.under(number))

    def test_sixty_that_lean_on_all_before(self):
        changes = leaning(*[list(range(1, number)) for number in range(1, 61)])
        self.assertEqual(changes.over(1), list(range(2, 61)))
        self.assertEqual(changes.under(60), list(range(1, 60)))

    def test_numbers_that_are_no_changes(self):
        for changes in (Changes(), leaning([], [1])):
            for method in (changes.rank_of, changes.leans_of, changes.edits_of, changes.over, changes.under):
                for number in (0, -1, changes.many() + 1, 61, True):
                    with self.subTest(method=method.__name__, number=number):
                        self.assertRaises(NoChange, method, number)

    def test_the_last_and_the_first_are_changes(self):
        changes = leaning([], [1])
        for number in (1, 2):
            self.assertEqual(changes.rank_of(number), 0)


class KeepsTest(unittest.TestCase):
    def test_rows_that_keep(self):
        changes = leaning([], [1], [], [2, 3])
        for row in ([], [1], [3], [1, 2], [3, 1], [1, 3, 2, 4], [3, 1, 2, 4]):
            self.assertIs(keeps(changes, row), True)

    def test_one_ahead_of_what_it_leans_on(self):
        changes = leaning([], [1], [], [2, 3])
        for row in ([2, 1], [1, 2, 4, 3], [4, 1, 2, 3]):
            self.assertIs(keeps(changes, row), False)

    def test_one_whose_lean_is_not_in_the_row(self):
        changes = leaning([], [1], [], [2, 3])
        for row in ([2], [4], [1, 2, 4], [1, 3, 4]):
            self.assertIs(keeps(changes, row), False)

    def test_what_is_no_row_does_not_keep(self):
        changes = leaning([], [1])
        for row in ([1, 1], [0], [-1], [1, 3]):
            self.assertIs(keeps(changes, row), False)
            self.assertIs(stands(changes, row), False)

    def test_all_small_ones(self):
        changes = leaning([], [1], [1], [2], [3, 4])
        for row in rows_of(5):
            kept = all(lean in row[:place] for place, number in enumerate(row) for lean in changes.leans_of(number))
            self.assertIs(keeps(changes, row), kept)


class StandsTest(unittest.TestCase):
    def setUp(self):
        self.changes = editing(
            ([], [(0, 0, 1), (5, 0, 2)]),
            ([], [(0, 1, 3)]),
            ([1], [(5, 2, 0), (999, 0, BILLION)]),
            ([], [(7, 1, 2)]),
            ([1], []),
        )

    def test_rows_that_stand(self):
        for row in ([], [1], [1, 2], [1, 3], [1, 2, 3], [1, 3, 2], [1, 5, 3]):
            self.assertIs(stands(self.changes, row), True)

    def test_rows_that_keep_and_do_not_stand(self):
        for row in ([2], [2, 1], [4], [1, 4], [1, 2, 3, 4]):
            self.assertIs(keeps(self.changes, row), True)
            self.assertIs(stands(self.changes, row), False)

    def test_rows_that_fit_and_do_not_keep(self):
        changes = editing(([], [(0, 0, 1)]), ([1], [(3, 0, 1)]))
        for row in ([2, 1], [2]):
            self.assertIs(keeps(changes, row), False)
            self.assertIs(stands(changes, row), False)

    def test_the_sheet_of_rows_that_stand(self):
        for row, sheet in (
            ([], []),
            ([1], [(0, 1), (5, 2)]),
            ([1, 2], [(0, 3), (5, 2)]),
            ([1, 3], [(0, 1), (999, BILLION)]),
            ([1, 2, 3], [(0, 3), (999, BILLION)]),
            ([1, 3, 2, 5], [(0, 3), (999, BILLION)]),
        ):
            self.assertEqual(sheet_of(self.changes, row), sheet)

    def test_the_empty_row_of_no_changes(self):
        self.assertIs(keeps(Changes(), []), True)
        self.assertIs(stands(Changes(), []), True)
        self.assertEqual(sheet_of(Changes(), []), [])

    def test_a_slot_emptied_and_filled_again(self):
        changes = editing(([], [(4, 0, 1)]), ([], [(4, 1, 0)]), ([], [(4, 0, 9)]))
        self.assertEqual(sheet_of(changes, [1, 2]), [])
        self.assertEqual(sheet_of(changes, [1, 2, 3]), [(4, 9)])
        self.assertEqual(sheet_of(changes, [3]), [(4, 9)])
        self.assertIs(stands(changes, [1, 3]), False)

    def test_all_small_ones(self):
        for row in rows_of(5):
            sheet = []
            stood = keeps(self.changes, row)
            for number in row:
                edits = self.changes.edits_of(number)
                stood = stood and unfit(sheet, edits) is None
                sheet = edited(sheet, edits) if stood else []
            self.assertIs(stands(self.changes, row), stood)
            if stood:
                self.assertEqual(sheet_of(self.changes, row), sheet)

    def test_sixty_in_a_row(self):
        changes = Changes()
        for number in range(1, 61):
            changes.added(0, [number - 1] if number > 1 else [], [(slot, number - 1, number) for slot in range(20)])
        row = list(range(1, 61))
        self.assertIs(stands(changes, row), True)
        self.assertEqual(sheet_of(changes, row), [(slot, 60) for slot in range(20)])


class PlainKindsTest(unittest.TestCase):
    def test_lists_and_tuples_alike(self):
        edits = [(1, 0, 4), (2, 5, 0)]
        told = []
        for first, second in itertools.product((list, tuple), repeat=2):
            changes = leaning((), [1])
            changes.added(2, first([1, 2]), second(edits))
            told.append(shown(changes))
            self.assertIs(type(changes.leans_of(3)), list)
            self.assertIs(type(changes.edits_of(3)), list)
        self.assertEqual(told, [told[0]] * 4)

    def test_rows_as_tuples(self):
        changes = editing(([], [(0, 0, 1)]), ([1], [(0, 1, 2)]))
        self.assertIs(keeps(changes, (1, 2)), True)
        self.assertIs(keeps(changes, (2, 1)), False)
        self.assertIs(stands(changes, (1, 2)), True)
        self.assertIs(stands(changes, (2,)), False)
        self.assertEqual(sheet_of(changes, (1, 2)), [(0, 2)])
        self.assertEqual(sheet_of(changes, ()), [])

    def test_what_was_handed_in_is_as_it_was(self):
        changes = leaning([])
        for rank, leans, edits in ((0, [1], [(1, 0, 4), (2, 5, 0)]), (10, [1], [(1, 0, 4)]), (0, [2, 1], [(2, 1, 1)])):
            handed = (list(leans), list(edits))
            try:
                changes.added(rank, leans, edits)
            except NoChange:
                pass
            self.assertEqual((leans, edits), handed)

    def test_rows_handed_in_are_as_they_were(self):
        changes = editing(([], [(0, 0, 1)]), ([1], [(0, 1, 2)]))
        before = shown(changes)
        for row in ([1, 2], [2, 1], [2], []):
            handed = list(row)
            keeps(changes, row)
            stands(changes, row)
            self.assertEqual(row, handed)
        row = [1, 2]
        sheet_of(changes, row)
        self.assertEqual(row, [1, 2])
        self.assertEqual(shown(changes), before)

    def test_what_was_handed_in_may_be_changed_afterwards(self):
        changes = leaning([], [])
        leans = [1]
        edits = [(1, 0, 4)]
        changes.added(0, leans, edits)
        before = shown(changes)
        leans.append(2)
        edits[0] = (7, 1, 2)
        edits.append((8, 0, 1))
        self.assertEqual(shown(changes), before)
        self.assertEqual(changes.leans_of(3), [1])
        self.assertEqual(changes.edits_of(3), [(1, 0, 4)])

    def test_what_is_told_is_the_askers_own(self):
        changes = editing(([], [(0, 0, 1)]), ([1], [(0, 1, 2)]), ([1, 2], []))
        before = shown(changes)
        for method in (changes.leans_of, changes.edits_of, changes.over, changes.under):
            for number in (1, 2, 3):
                told = method(number)
                kept = list(told)
                told.append(5)
                told.reverse()
                self.assertEqual(method(number), kept)
        told = sheet_of(changes, [1, 2])
        told.clear()
        self.assertEqual(sheet_of(changes, [1, 2]), [(0, 2)])
        self.assertEqual(shown(changes), before)

    def test_what_was_told_does_not_change_later(self):
        changes = leaning([], [1])
        over = changes.over(1)
        changes.added(0, [1], [])
        self.assertEqual(over, [2])

    def test_a_refusal_of_the_sheets_is_not_let_through(self):
        changes = editing(([], [(0, 1, 2)]))
        try:
            told = stands(changes, [1])
        except NoFit:
            told = None
        self.assertIs(told, False)


if __name__ == "__main__":
    unittest.main()
