"""Points 14 to 16, and point 2 for them: places."""

import functools
import itertools
import unittest

from linegate.places import most_bad, wanted_places


def open_places(size, bad):
    return [place for place in range(1, size + 1) if bad is None or place < bad]


def places_of_the_document(size, bad, kept, hands):
    """The wanted places, as the document says them."""
    open_ones = open_places(size, bad)
    behind = open_ones[-1] + 1 if open_ones else 1
    wanted = {place for place in kept if place in open_ones}
    while len(wanted) < hands and set(open_ones) - wanted:
        if bad is None and size not in wanted:
            wanted.add(size)
        else:
            fence = sorted(wanted | {0, behind})
            gaps = [(len(range(low + 1, high)), low, high) for low, high in zip(fence, fence[1:])]
            greatest = max(gap[0] for gap in gaps)
            low, high = [gap[1:] for gap in gaps if gap[0] == greatest][0]
            wanted.add((low + high) // 2)
    return sorted(wanted)


def bads(size):
    return [None] + list(range(1, size + 1))


class WantedPlacesTest(unittest.TestCase):
    def assert_wanted(self, size, bad, kept, hands, wanted):
        for kind in (list, tuple):
            told = wanted_places(size, bad, kind(kept), hands)
            self.assertEqual(told, wanted)
            self.assertIs(type(told), list)

    def test_none_is_laid(self):
        for hands in (1, 2, 60):
            self.assert_wanted(0, None, [], hands, [])

    def test_the_first_is_bad(self):
        for size in (1, 2, 8, 60):
            for kept in ([], [1], [1, size] if size > 1 else [1]):
                self.assert_wanted(size, 1, kept, 3, [])

    def test_one_is_laid(self):
        self.assert_wanted(1, None, [], 1, [1])
        self.assert_wanted(1, None, [], 8, [1])
        self.assert_wanted(1, None, [1], 1, [1])

    def test_the_size_first_where_none_is_bad(self):
        for size in range(1, 61):
            self.assert_wanted(size, None, [], 1, [size])

    def test_the_size_comes_ahead_of_a_greater_gap(self):
        self.assert_wanted(8, None, [7], 2, [7, 8])
        self.assert_wanted(8, None, [1], 2, [1, 8])

    def test_the_size_is_not_taken_where_one_is_bad(self):
        self.assert_wanted(8, 8, [], 1, [4])
        self.assert_wanted(8, 8, [], 7, [1, 2, 3, 4, 5, 6, 7])

    def test_the_size_is_taken_once(self):
        self.assert_wanted(8, None, [8], 2, [4, 8])

    def test_one_hand_after_another(self):
        for hands, wanted in (
            (1, [8]), (2, [4, 8]), (3, [2, 4, 8]), (4, [2, 4, 6, 8]), (5, [1, 2, 4, 6, 8]), (6, [1, 2, 3, 4, 6, 8]),
            (7, [1, 2, 3, 4, 5, 6, 8]), (8, [1, 2, 3, 4, 5, 6, 7, 8]), (9, [1, 2, 3, 4, 5, 6, 7, 8]),
        ):
            self.assert_wanted(8, None, [], hands, wanted)

    def test_one_hand_after_another_below_a_bad_one(self):
        for hands, wanted in (
            (1, [3]), (2, [3, 5]), (3, [1, 3, 5]), (4, [1, 2, 3, 5]), (5, [1, 2, 3, 4, 5]),
            (6, [1, 2, 3, 4, 5, 6]), (60, [1, 2, 3, 4, 5, 6]),
        ):
            self.assert_wanted(9, 7, [], hands, wanted)

    def test_the_lowest_of_the_greatest_gaps(self):
        self.assert_wanted(9, None, [3, 6, 9], 4, [1, 3, 6, 9])
        self.assert_wanted(9, None, [1, 3, 6, 9], 5, [1, 3, 4, 6, 9])
        self.assert_wanted(9, None, [2, 5, 9], 4, [2, 5, 7, 9])
        self.assert_wanted(12, 12, [2, 7], 3, [2, 4, 7])
        self.assert_wanted(12, 12, [2, 4, 7], 4, [2, 4, 7, 9])

    def test_the_gap_reaches_to_the_first_place_behind_the_open_ones(self):
        self.assert_wanted(10, 8, [2], 2, [2, 5])
        self.assert_wanted(10, 6, [2], 2, [2, 4])
        self.assert_wanted(10, None, [2, 10], 3, [2, 6, 10])

    def test_kept_ones_as_many_as_hands(self):
        self.assert_wanted(8, None, [3], 1, [3])
        self.assert_wanted(8, None, [1, 2], 2, [1, 2])
        self.assert_wanted(8, 5, [1, 4], 2, [1, 4])

    def test_kept_ones_more_than_hands(self):
        self.assert_wanted(8, None, [1, 2, 3], 1, [1, 2, 3])
        self.assert_wanted(8, None, [1, 2, 3, 8], 2, [1, 2, 3, 8])
        self.assert_wanted(8, 4, [1, 2, 3], 2, [1, 2, 3])

    def test_kept_ones_that_are_not_open(self):
        self.assert_wanted(8, 5, [5], 1, [2])
        self.assert_wanted(8, 5, [6, 8], 1, [2])
        self.assert_wanted(8, 5, [3, 5, 8], 1, [3])
        self.assert_wanted(8, 5, [3, 5, 8], 2, [1, 3])
        self.assert_wanted(8, 5, [4, 5], 2, [2, 4])
        self.assert_wanted(8, 2, [2, 3, 4], 2, [1])

    def test_all_small_ones(self):
        for size in range(8):
            for bad in bads(size):
                for many in range(size + 1):
                    for kept in itertools.combinations(range(1, size + 1), many):
                        for hands in range(1, 10):
                            told = places_of_the_document(size, bad, kept, hands)
                            self.assert_wanted(size, bad, kept, hands, told)

    def test_great_ones(self):
        for size in (16, 31, 59, 60):
            for bad in bads(size):
                for kept in ([], [1], [size], [size // 2, size], list(range(3, size, 5)), list(range(1, size + 1))):
                    for hands in (1, 2, 3, 8, 59, 60):
                        told = places_of_the_document(size, bad, kept, hands)
                        self.assert_wanted(size, bad, kept, hands, told)

    def test_what_was_handed_in_is_as_it_was(self):
        for size, bad, kept, hands in ((8, None, [3, 5], 5), (8, 4, [3, 5], 1), (8, None, [1, 2], 1), (8, None, [], 3)):
            handed = list(kept)
            told = wanted_places(size, bad, kept, hands)
            self.assertEqual(kept, handed)
            told.append(99)
            told.reverse()
            self.assertEqual(kept, handed)
            self.assertEqual(wanted_places(size, bad, kept, hands), sorted(told)[:-1])


class HalvingTest(unittest.TestCase):
    def test_one_hand_and_a_bad_place(self):
        for size in range(1, 61):
            for bad in range(1, size + 1):
                self.assertEqual(wanted_places(size, bad, [], 1), [bad // 2] if bad > 1 else [])

    def test_the_most_of_one_hand(self):
        for width, most in ((1, 1), (2, 2), (3, 2), (4, 3), (7, 3), (8, 4), (15, 4), (16, 5), (31, 5), (32, 6), (60, 6)):
            self.assertEqual(most_bad(width, 1), most)

    def test_the_most_of_one_hand_is_written_in_twos(self):
        for width in range(1, 61):
            self.assertEqual(most_bad(width, 1), len(bin(width)) - 2)

    def test_the_most_of_more_hands(self):
        for width in range(1, 61):
            for hands in (2, 3, 8, 59, 60):
                self.assertEqual(most_bad(width, hands), width)

    def test_the_most_is_reached_with_one_hand_and_never_passed(self):
        for width in range(1, 17):
            self.assertEqual(max(worst(size, None, 1) for size in range(1, width + 1)), most_bad(width, 1))
        for width in range(1, 10):
            for hands in (2, 3):
                self.assertLessEqual(max(worst(size, None, hands) for size in range(1, width + 1)), most_bad(width, hands))


@functools.lru_cache(maxsize=None)
def worst(size, bad, hands, kept=()):
    """The most looks that can be settled otherwise than yes till the first is bad or all are in."""
    most = 0
    wanted = wanted_places(size, bad, kept, hands)
    for place in wanted:
        others = tuple(other for other in wanted if other != place)
        most = max(most, 1 + worst(size, place, hands, others))
        ahead = tuple(other - place for other in others if other > place)
        most = max(most, worst(size - place, None if bad is None else bad - place, hands, ahead))
    return most


if __name__ == "__main__":
    unittest.main()
