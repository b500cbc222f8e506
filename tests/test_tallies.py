"""Point 11, and point 2 for it: tallies."""

import itertools
import unittest

from linegate.errors import NoAnswer, NoRule
from linegate.tallies import Tally

WORDS = ("yes", "no", "unsure")


def told_in_turn(tally, words):
    """What a tally tells, word by word."""
    return [tally.tell(word) for word in words]


def shown(tally):
    return (tally.counted(), tally.word())


def words_of_the_document(need, tries, words):
    """What a tally that took these words tells, as the document says it."""
    for many in range(1, len(words) + 1):
        taken = words[:many]
        if taken.count("yes") == need:
            return "yes"
        if taken.count("no") == need:
            return "no"
        if many == tries:
            return "unsure"
    return "more"


class RuleTest(unittest.TestCase):
    def test_numbers_at_their_bounds(self):
        for need, tries in ((1, 1), (1, 2), (2, 2), (1, 20), (19, 20), (20, 20), (7, 13)):
            self.assertEqual(shown(Tally(need, tries)), ((0, 0, 0), "more"))

    def test_numbers_beyond_their_bounds(self):
        for need, tries in (
            (0, 0), (0, 1), (0, 20), (-1, 1), (-1, -1), (1, 0), (1, -1), (2, 1), (3, 2), (20, 19), (21, 20),
            (1, 21), (20, 21), (21, 21), (1, 1000), (1000, 1000), (True, 1), (1, True), (True, True), (False, 1),
        ):
            with self.subTest(need=need, tries=tries):
                self.assertRaises(NoRule, Tally, need, tries)

    def test_all_pairs_up_to_beyond_the_bounds(self):
        for need, tries in itertools.product(range(-1, 24), repeat=2):
            if 1 <= need <= tries <= 20:
                self.assertEqual(Tally(need, tries).word(), "more")
            else:
                self.assertRaises(NoRule, Tally, need, tries)


class TellTest(unittest.TestCase):
    def test_one_answer_settles(self):
        for word in WORDS:
            tally = Tally(1, 1)
            self.assertEqual(tally.tell(word), word)
            self.assertEqual(tally.word(), word)

    def test_yes_as_soon_as_need_many(self):
        tally = Tally(2, 5)
        self.assertEqual(told_in_turn(tally, ["yes", "no", "unsure", "yes"]), ["more", "more", "more", "yes"])
        self.assertEqual(shown(tally), ((2, 1, 1), "yes"))

    def test_no_as_soon_as_need_many(self):
        tally = Tally(2, 5)
        self.assertEqual(told_in_turn(tally, ["no", "yes", "no"]), ["more", "more", "no"])
        self.assertEqual(shown(tally), ((1, 2, 0), "no"))

    def test_unsure_as_soon_as_tries_many_in_all(self):
        tally = Tally(2, 3)
        self.assertEqual(told_in_turn(tally, ["no", "yes", "unsure"]), ["more", "more", "unsure"])
        self.assertEqual(shown(tally), ((1, 1, 1), "unsure"))

    def test_many_unsure_ones_settle_nothing_ahead_of_tries(self):
        tally = Tally(1, 4)
        self.assertEqual(told_in_turn(tally, ["unsure"] * 4), ["more", "more", "more", "unsure"])

    def test_the_last_try_may_still_be_yes_or_no(self):
        for word in ("yes", "no"):
            tally = Tally(1, 3)
            self.assertEqual(told_in_turn(tally, ["unsure", "unsure", word]), ["more", "more", word])

    def test_need_as_great_as_tries(self):
        tally = Tally(20, 20)
        self.assertEqual(told_in_turn(tally, ["yes"] * 20), ["more"] * 19 + ["yes"])
        tally = Tally(20, 20)
        self.assertEqual(told_in_turn(tally, ["no"] * 20), ["more"] * 19 + ["no"])
        tally = Tally(20, 20)
        self.assertEqual(told_in_turn(tally, ["no"] + ["yes"] * 19), ["more"] * 19 + ["unsure"])

    def test_one_needed_of_twenty(self):
        tally = Tally(1, 20)
        self.assertEqual(told_in_turn(tally, ["unsure"] * 19), ["more"] * 19)
        self.assertEqual(tally.tell("no"), "no")

    def test_all_small_ones(self):
        for need, tries in ((1, 1), (1, 2), (2, 2), (1, 3), (2, 3), (3, 3), (2, 5), (3, 5)):
            for words in itertools.product(WORDS, repeat=tries):
                tally = Tally(need, tries)
                for many in range(1, tries + 1):
                    told = words_of_the_document(need, tries, words[:many])
                    self.assertEqual(tally.tell(words[many - 1]), told)
                    self.assertEqual(tally.word(), told)
                    self.assertEqual(tally.counted(), tuple(words[:many].count(word) for word in WORDS))
                    if told != "more":
                        break
                self.assertNotEqual(tally.word(), "more")

    def test_counted_is_a_tuple(self):
        tally = Tally(2, 3)
        counted = tally.counted()
        self.assertIs(type(counted), tuple)
        tally.tell("unsure")
        self.assertEqual(counted, (0, 0, 0))
        self.assertEqual(tally.counted(), (0, 0, 1))

    def test_two_tallies_have_nothing_in_common(self):
        one = Tally(2, 3)
        other = Tally(2, 3)
        one.tell("yes")
        self.assertEqual(shown(other), ((0, 0, 0), "more"))


class RefusedTest(unittest.TestCase):
    def assert_refused(self, tally, word):
        before = shown(tally)
        with self.assertRaises(NoAnswer):
            tally.tell(word)
        self.assertEqual(shown(tally), before)

    def test_other_texts(self):
        tally = Tally(2, 3)
        for word in ("", "Yes", "yes ", " yes", "more", "YES", "No", "no ", "y", "n", "ye", "o", "unsur",
                     "unsure\n", "Unsure", "yes no", "yes, no", "maybe", "none", "stop"):
            self.assert_refused(tally, word)
        self.assertEqual(shown(tally), ((0, 0, 0), "more"))

    def test_other_texts_are_no_tries(self):
        tally = Tally(2, 3)
        for word in ("no", "", "yes", "more"):
            try:
                tally.tell(word)
            except NoAnswer:
                pass
        self.assertEqual(shown(tally), ((1, 1, 0), "more"))
        self.assertEqual(tally.tell("no"), "no")

    def test_answers_to_a_settled_one(self):
        for words, told in ((["yes", "yes"], "yes"), (["no", "no"], "no"), (["no", "yes", "unsure"], "unsure")):
            tally = Tally(2, 3)
            self.assertEqual(told_in_turn(tally, words)[-1], told)
            for word in WORDS + ("", "Yes", "more"):
                self.assert_refused(tally, word)


if __name__ == "__main__":
    unittest.main()
