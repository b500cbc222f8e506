"""Points 12 and 13, and point 2 for them: laying."""

import itertools
import random
import unittest

from linegate.changes import Changes, stands
from linegate.laying import filled, free, layable, next_laid


def changes_of(*triples):
    """Changes of these triples of rank, leans and edits."""
    changes = Changes()
    for rank, leans, edits in triples:
        changes.added(rank, leans, edits)
    return changes


def ranked(*ranks):
    """Changes without leans and edits, of these ranks."""
    return changes_of(*[(rank, [], []) for rank in ranks])


def shown(changes):
    numbers = range(1, changes.many() + 1)
    return [(changes.rank_of(number), changes.leans_of(number), changes.edits_of(number)) for number in numbers]


def values_of_the_document(changes, row):
    """What stands at each slot behind a row that stands."""
    values = {}
    for number in row:
        for slot, old, new in changes.edits_of(number):
            values[slot] = new
    return values


def layable_by_the_document(changes, line, laid, waiting):
    row = list(line) + list(laid)
    values = values_of_the_document(changes, row)
    return [
        number for number in waiting
        if set(changes.leans_of(number)) <= set(row)
        and all(values.get(slot, 0) == old for slot, old, new in changes.edits_of(number))
    ]


def next_by_the_document(changes, line, laid, waiting):
    can = layable_by_the_document(changes, line, laid, waiting)
    greatest = max([changes.rank_of(number) for number in can], default=None)
    return min([number for number in can if changes.rank_of(number) == greatest], default=None)


def filled_by_the_document(changes, line, laid, waiting, width):
    laid = list(laid)
    while len(laid) < width:
        number = next_by_the_document(changes, line, laid, [one for one in waiting if one not in laid])
        if number is None:
            break
        laid.append(number)
    return laid


class FreeTest(unittest.TestCase):
    def setUp(self):
        self.changes = changes_of(
            (0, [], []), (0, [1], []), (0, [2], []), (0, [1, 2], []), (0, [], []), (0, [5], []), (0, [1, 5], []),
        )

    def test_those_that_lean_on_none(self):
        self.assertEqual(free(self.changes, [], [], [1, 5]), [1, 5])

    def test_on_one_that_is_on_the_line(self):
        self.assertEqual(free(self.changes, [1], [], [2, 3]), [2])

    def test_on_one_that_is_laid(self):
        self.assertEqual(free(self.changes, [], [1], [2, 3]), [2])

    def test_on_one_of_each(self):
        self.assertEqual(free(self.changes, [1], [2], [3, 4]), [3, 4])

    def test_on_one_that_waits(self):
        self.assertEqual(free(self.changes, [], [], [1, 2, 3, 4]), [1])

    def test_on_one_that_is_none_of_these(self):
        self.assertEqual(free(self.changes, [], [], [2, 3, 4, 6, 7]), [])
        self.assertEqual(free(self.changes, [1], [], [6, 7]), [])

    def test_on_some_that_are_there_and_some_that_are_not(self):
        self.assertEqual(free(self.changes, [1], [], [2, 4, 5, 7]), [2, 5])

    def test_what_it_leans_on_counts_and_not_what_these_lean_on(self):
        self.assertEqual(free(self.changes, [1], [2], [3]), [3])

    def test_edits_do_not_count(self):
        changes = changes_of((0, [], [(3, 1, 2)]), (0, [], [(3, 0, 2)]))
        self.assertEqual(free(changes, [], [], [1, 2]), [1, 2])

    def test_none_waits(self):
        self.assertEqual(free(self.changes, [1], [2], []), [])
        self.assertEqual(free(Changes(), [], [], []), [])


class LayableTest(unittest.TestCase):
    def setUp(self):
        self.changes = changes_of(
            (0, [], [(3, 0, 1)]), (0, [], [(3, 1, 2)]), (0, [], [(3, 2, 0), (4, 0, 9)]),
            (0, [], [(3, 0, 5)]), (0, [2], [(8, 0, 1)]), (0, [], []), (0, [], [(3, 1, 7), (4, 1, 0)]),
        )

    def test_on_the_empty_sheet(self):
        self.assertEqual(layable(self.changes, [], [], [1, 2, 3, 4, 5, 6, 7]), [1, 4, 6])

    def test_on_the_sheet_of_the_line(self):
        self.assertEqual(layable(self.changes, [1], [], [2, 3, 4, 5, 6, 7]), [2, 6])

    def test_on_the_sheet_of_the_laid_ones(self):
        self.assertEqual(layable(self.changes, [], [1], [2, 3, 4, 5, 6, 7]), [2, 6])

    def test_on_the_sheet_of_both(self):
        self.assertEqual(layable(self.changes, [1], [2], [3, 4, 5, 6, 7]), [3, 5, 6])
        self.assertEqual(layable(self.changes, [1, 2], [3], [4, 5, 6, 7]), [4, 5, 6])

    def test_it_fits_and_does_not_lean_free(self):
        self.assertEqual(layable(self.changes, [], [], [5]), [])

    def test_it_leans_free_and_does_not_fit(self):
        changes = changes_of((0, [], [(3, 0, 1)]), (0, [1], [(3, 0, 2)]))
        self.assertEqual(free(changes, [1], [], [2]), [2])
        self.assertEqual(layable(changes, [1], [], [2]), [])

    def test_each_of_its_edits_must_fit(self):
        changes = changes_of((0, [], [(1, 0, 5), (9, 1, 2)]), (0, [], [(1, 1, 5), (9, 0, 2)]), (0, [], [(1, 0, 5)]))
        self.assertEqual(layable(changes, [], [], [1, 2, 3]), [3])

    def test_none_waits(self):
        self.assertEqual(layable(self.changes, [1], [2], []), [])
        self.assertEqual(layable(Changes(), [], [], []), [])


class NextLaidTest(unittest.TestCase):
    def test_the_greatest_rank(self):
        self.assertEqual(next_laid(ranked(3, 9, 5), [], [], [1, 2, 3]), 2)
        self.assertEqual(next_laid(ranked(0, 1), [], [], [1, 2]), 2)

    def test_of_like_ranks_the_least_number(self):
        self.assertEqual(next_laid(ranked(3, 7, 7, 7), [], [], [1, 2, 3, 4]), 2)
        self.assertEqual(next_laid(ranked(0, 0, 0), [], [], [1, 2, 3]), 1)

    def test_only_of_those_that_wait(self):
        self.assertEqual(next_laid(ranked(9, 8, 7, 6), [1], [2], [3, 4]), 3)
        self.assertEqual(next_laid(ranked(9, 8, 7, 6), [], [], [4]), 4)

    def test_a_greater_rank_that_can_not_be_laid(self):
        changes = changes_of((1, [], []), (9, [1], []), (8, [], [(3, 1, 2)]), (2, [], []))
        self.assertEqual(next_laid(changes, [], [], [1, 2, 3, 4]), 4)

    def test_none_can_be_laid(self):
        changes = changes_of((1, [], [(3, 1, 2)]), (9, [1], []))
        self.assertIsNone(next_laid(changes, [], [], [1, 2]))
        self.assertIsNone(next_laid(changes, [], [], []))
        self.assertIsNone(next_laid(Changes(), [], [], []))


class FilledTest(unittest.TestCase):
    def test_up_to_a_width(self):
        changes = ranked(0, 5, 5, 9, 1)
        for width, laid in ((0, []), (1, [4]), (2, [4, 2]), (3, [4, 2, 3]), (4, [4, 2, 3, 5]), (5, [4, 2, 3, 5, 1])):
            self.assertEqual(filled(changes, [], [], [1, 2, 3, 4, 5], width), laid)

    def test_more_than_can_be_laid(self):
        self.assertEqual(filled(ranked(0, 5), [], [], [1, 2], 16), [2, 1])
        self.assertEqual(filled(ranked(0, 5), [], [1], [2], 60), [1, 2])
        self.assertEqual(filled(ranked(0, 5), [], [1], [], 60), [1])
        self.assertEqual(filled(Changes(), [], [], [], 3), [])

    def test_fewer_than_are_laid(self):
        self.assertEqual(filled(ranked(0, 5, 9), [], [1, 2], [3], 0), [1, 2])
        self.assertEqual(filled(ranked(0, 5, 9), [], [1, 2], [3], 1), [1, 2])

    def test_just_as_many_as_are_laid(self):
        self.assertEqual(filled(ranked(0, 5, 9), [], [1, 2], [3], 2), [1, 2])

    def test_those_laid_stay_ahead(self):
        self.assertEqual(filled(ranked(0, 1, 9, 8), [], [2, 1], [3, 4], 4), [2, 1, 3, 4])

    def test_the_line_does_not_count_for_the_width(self):
        self.assertEqual(filled(ranked(0, 1, 9, 8), [1, 2], [], [3, 4], 2), [3, 4])

    def test_a_laid_one_makes_another_one_fit(self):
        changes = changes_of((9, [], [(3, 1, 2)]), (0, [], [(3, 0, 1)]), (5, [], [(3, 2, 3)]))
        self.assertEqual(filled(changes, [], [], [1, 2, 3], 3), [2, 1, 3])
        self.assertEqual(filled(changes, [], [], [1, 2, 3], 2), [2, 1])
        self.assertEqual(filled(changes, [], [], [1, 3], 3), [])

    def test_a_laid_one_makes_another_one_fit_no_more(self):
        changes = changes_of((0, [], [(3, 0, 2)]), (5, [], [(3, 0, 1)]), (0, [], [(4, 0, 1)]))
        self.assertEqual(filled(changes, [], [], [1, 2, 3], 3), [2, 3])

    def test_a_laid_one_lets_another_one_lean_free(self):
        changes = changes_of((0, [], []), (9, [1], []), (3, [], []), (4, [2, 3], []))
        self.assertEqual(filled(changes, [], [], [1, 2, 3, 4], 4), [3, 1, 2, 4])

    def test_a_later_one_of_greater_rank_comes_in_as_soon_as_it_can(self):
        changes = changes_of((5, [], [(0, 0, 1)]), (4, [], []), (9, [], [(0, 1, 2)]), (6, [], []))
        self.assertEqual(filled(changes, [], [], [1, 2, 3, 4], 4), [4, 1, 3, 2])


class AgainstTheDocumentTest(unittest.TestCase):
    def setUp(self):
        self.chance = random.Random(12)

    def some_changes(self):
        changes = Changes()
        for number in range(1, self.chance.randint(1, 9) + 1):
            leans = [lean for lean in range(1, number) if self.chance.random() < 0.15]
            slots = sorted(self.chance.sample(range(4), self.chance.randint(0, 2)))
            values = [self.chance.sample(range(3), 2) for slot in slots]
            edits = [(slot, old, new) for slot, (old, new) in zip(slots, values)]
            changes.added(self.chance.randint(0, 3), leans, edits)
        return changes

    def some_row(self, changes):
        row = []
        for number in self.chance.sample(range(1, changes.many() + 1), changes.many()):
            if stands(changes, row + [number]) and self.chance.random() < 0.8:
                row.append(number)
        return row

    def test_many(self):
        for turn in range(1500):
            changes = self.some_changes()
            row = self.some_row(changes)
            parted = self.chance.randint(0, len(row))
            line, laid = row[:parted], row[parted:]
            others = [number for number in range(1, changes.many() + 1) if number not in row]
            waiting = [number for number in others if self.chance.random() < 0.8]
            given = (changes, line, laid, waiting)
            self.assertEqual(layable(*given), layable_by_the_document(*given))
            self.assertEqual(next_laid(*given), next_by_the_document(*given))
            for width in (0, 1, len(laid), len(laid) + 1, len(laid) + 2, 16):
                told = filled(*given, width)
                self.assertEqual(told, filled_by_the_document(*given, width))
                self.assertTrue(stands(changes, line + told))


class PlainKindsTest(unittest.TestCase):
    def setUp(self):
        self.changes = changes_of(
            (0, [], [(0, 0, 1)]), (1, [1], []), (2, [], []), (9, [2, 3], [(0, 1, 2)]), (9, [], [(0, 2, 3)]),
        )

    def told_all(self, line, laid, waiting):
        return [
            free(self.changes, line, laid, waiting), layable(self.changes, line, laid, waiting),
            next_laid(self.changes, line, laid, waiting), filled(self.changes, line, laid, waiting, 4),
        ]

    def test_lists_and_tuples_side_by_side(self):
        for first, second, third in itertools.product((list, tuple), repeat=3):
            self.assertEqual(self.told_all(first([1]), second([2]), third([3, 4])), [[3], [3], 3, [2, 3, 4]])
            told = self.told_all(first([1]), second([2]), third([3, 4, 5]))
            self.assertEqual(told, [[3, 5], [3], 3, [2, 3, 4, 5]])
            for each in (told[0], told[1], told[3]):
                self.assertIs(type(each), list)
            self.assertEqual(self.told_all(first([]), second([]), third([])), [[], [], None, []])

    def test_a_width_of_none_more_tells_a_list_of_its_own(self):
        for laid in ([1, 2], (1, 2)):
            told = filled(self.changes, [], laid, [3], 2)
            self.assertIs(type(told), list)
            told.append(9)
            self.assertEqual(list(laid), [1, 2])

    def test_what_was_handed_in_is_as_it_was(self):
        before = shown(self.changes)
        line, laid, waiting = [1], [2], [3, 4, 5]
        for told in self.told_all(line, laid, waiting):
            if isinstance(told, list):
                told.clear()
        self.assertEqual((line, laid, waiting), ([1], [2], [3, 4, 5]))
        self.assertEqual(shown(self.changes), before)

    def test_what_is_told_is_the_askers_own(self):
        once = self.told_all([1], [2], [3, 4, 5])
        for told in self.told_all([1], [2], [3, 4, 5]):
            if isinstance(told, list):
                told.append(77)
        self.assertEqual(self.told_all([1], [2], [3, 4, 5]), once)


if __name__ == "__main__":
    unittest.main()
