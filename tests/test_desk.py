"""Point 26, and point 2 for it: the desk."""

import unittest

from linegate.desk import Desk
from linegate.errors import LinegateError, NoChange, NoLook, NoRow, NoRule, NoText, TooLate, TooMany

TOLD = ("line", "laid", "waiting", "wanted", "sheet", "book")

# Each text of a deed or question, and the answer, one behind the other.
TALK = (
    ("line", "none"), ("laid", "none"), ("waiting", "none"), ("wanted", "none"), ("sheet", "none"), ("book", ""),
    ("ask 4 put 3 0 7", "1"), ("ask 0 on 1 put 3 7 8 12 0 5", "2"), ("ask 9", "3"), ("ask 9 put 12 1 2", "4"),
    ("laid", "1 2 3"), ("waiting", "4"), ("wanted", "1"), ("line", "none"), ("sheet", "none"),
    ("yes 1", "yes"),
    ("line", "1"), ("laid", "2 3"), ("wanted", "1 2 3"), ("sheet", "3=7"),
    ("why 1", "in 0"), ("why 2", "laid 0"), ("why 3", "laid 1"), ("why 4", "unfit 12"),
    ("no 1 2 3", "no"), ("wanted", "1 2"), ("why 4", "halving 2"),
    ("yes 1 2", "yes"), ("line", "1 2"), ("sheet", "3=8 12=5"), ("why 3", "out no 1 2 3"), ("why 4", "out unfit 12"),
    ("wanted", "none"), ("laid", "none"), ("waiting", "none"),
    ("stop", "ok"), ("ask 1", "5"), ("ask 2 on 5", "6"), ("why 5", "stopped"), ("waiting", "5 6"), ("laid", "none"),
    ("withdraw 5", "ok"), ("why 5", "out withdrawn"), ("why 6", "out leans 5"), ("go", "ok"),
    ("book", "ask 4 put 3 0 7\nask 0 on 1 put 3 7 8 12 0 5\nask 9\nask 9 put 12 1 2\nyes 1\nno 1 2 3\nyes 1 2\nstop\n"
             "ask 1\nask 2 on 5\nwithdraw 5\ngo"),
    ("back", "ok"), ("why 5", "out withdrawn"), ("back", "ok"), ("why 5", "stopped"), ("go", "ok"), ("laid", "5 6"),
)

NO_TEXTS = (
    "", " ", "line ", " line", "line 1", "Line", "LINE", "lines", "laid ", "laid laid", "waiting 1", "wait", "wanted ",
    "Wanted", "wanted 1", "sheet ", "sheet 3", "Sheet", "book ", " book", "book 1", "Book", "back ", " back", "back 1",
    "Back", "BACK", "why", "why ", " why 1", "why 1 ", "why  1", "why 1 2", "why 01", "why 00", "why +1", "why -1",
    "why 1000000000000", "why one", "why x", "why\t1", "why 1\n", "why1", "Why 1", "WHY 1", "why \u0661", "what 1",
    "ask", "ask ", "ask 1 on", "ask 1 put", "ask 1 put 1 0", "ask 1 put 1 0 1 on 1", "ask 01", "ask -1", "ask 1  on 1",
    "ask 1000000000000", "withdraw", "withdraw 01", "withdraw 1 1", "stop 1", "stop ", "go 1", " go", "Go", "yes",
    "yes ", "no", "unsure", "yes 01", "YES 1", "more 1", "none", "ok", "line\n", "book\n", "stop\n", "line\nlaid",
    "line laid", "1", "0", "~", "settings", "counts", "bad", "growths", "help", "quit",
)


def desk_with(*texts, settings=(3, 1, 1, 1)):
    desk = Desk(*settings)
    for text in texts:
        desk.say(text)
    return desk


def asks(many):
    return ("ask 0",) * many


def shown(desk):
    """All that a desk tells."""
    told = {text: desk.say(text) for text in TOLD}
    number = 1
    while True:
        try:
            told[number] = desk.say(f"why {number}")
        except NoChange:
            return told
        number += 1


def told_again(desk, settings=(3, 1, 1, 1)):
    """A new desk of the same numbers, told what the desk tells as book."""
    texts = desk.say("book")
    return desk_with(*(texts.split("\n") if texts else ()), settings=settings)


class DeskTest(unittest.TestCase):
    def assert_says(self, desk, *pairs):
        for text, answer in pairs:
            told = desk.say(text)
            self.assertEqual(told, answer, text)
            self.assertIs(type(told), str)

    def assert_refused(self, desk, refusal, text):
        before = shown(desk)
        with self.assertRaises(LinegateError) as caught:
            desk.say(text)
        self.assertIs(caught.exception.__class__, refusal)
        self.assertEqual(shown(desk), before)


class NewDeskTest(DeskTest):
    def test_nothing_to_begin_with(self):
        self.assertEqual(shown(Desk(3, 1, 1, 1)), {
            "line": "none", "laid": "none", "waiting": "none", "wanted": "none", "sheet": "none", "book": "",
        })

    def test_numbers_beyond_their_bounds(self):
        for settings in (
            (0, 1, 1, 1), (17, 1, 1, 1), (1, 0, 1, 1), (1, 9, 1, 1), (1, 1, 0, 1), (1, 1, 2, 1), (1, 1, 1, 0),
            (1, 1, 1, 21), (1, 1, 21, 21), (-1, 1, 1, 1),
        ):
            with self.subTest(settings=settings):
                with self.assertRaises(LinegateError) as caught:
                    Desk(*settings)
                self.assertIs(caught.exception.__class__, NoRule)

    def test_the_four_numbers_are_the_gates(self):
        self.assert_says(desk_with(*asks(3), settings=(2, 1, 1, 1)), ("laid", "1 2"), ("waiting", "3"))
        desk = desk_with("stop", *asks(17), "go", settings=(16, 8, 1, 1))
        self.assert_says(desk, ("laid", "1 2 3 4 5 6 7 8 9 10 11 12 13 14 15 16"), ("waiting", "17"))
        self.assertEqual(desk.say("wanted").count("; "), 7)
        desk = desk_with(*asks(1), settings=(1, 1, 2, 3))
        self.assert_says(desk, ("yes 1", "more"), ("no 1", "more"), ("unsure 1", "unsure"))

    def test_two_desks_have_nothing_in_common(self):
        one, other = Desk(3, 1, 1, 1), Desk(3, 1, 1, 1)
        one.say("ask 0")
        self.assertEqual(shown(other), shown(Desk(3, 1, 1, 1)))


class TalkTest(DeskTest):
    def test_one_talk(self):
        self.assert_says(Desk(3, 1, 1, 1), *TALK)


class DeedsTest(DeskTest):
    def test_an_ask(self):
        desk = Desk(3, 1, 1, 1)
        self.assert_says(
            desk, ("ask 0", "1"), ("ask 9 on 1", "2"), ("ask 5 put 0 0 1 999 0 1000000000", "3"),
            ("ask 7 on 1 3 put 0 1 0", "4"), ("yes 1", "yes"), ("yes 1 2 3 4", "yes"), ("sheet", "999=1000000000"),
        )

    def test_numbers_of_two_figures_are_told(self):
        desk = desk_with(*asks(11), settings=(16, 1, 1, 1))
        self.assert_says(desk, ("ask 0", "12"), ("laid", "1 2 3 4 5 6 7 8 9 10 11 12"), ("why 12", "laid 11"))

    def test_what_an_answer_tells(self):
        for texts, answers in (
            (("yes 1", "yes 1"), ["more", "yes"]), (("no 1", "no 1"), ["more", "no"]),
            (("yes 1", "no 1", "unsure 1"), ["more", "more", "unsure"]),
        ):
            desk = desk_with("ask 0", settings=(1, 1, 2, 3))
            self.assertEqual([desk.say(text) for text in texts], answers)

    def test_withdraw_stop_and_go(self):
        desk = desk_with(*asks(4))
        self.assert_says(
            desk, ("withdraw 1", "ok"), ("laid", "2 3 4"), ("stop", "ok"), ("laid", "none"), ("waiting", "2 3 4"),
            ("wanted", "none"), ("stop", "ok"), ("go", "ok"), ("laid", "2 3 4"), ("go", "ok"), ("waiting", "none"),
        )

    def test_what_the_deed_is_refused_with(self):
        desk = desk_with(*asks(3), "yes 1", "withdraw 3")
        for refusal, text in (
            (NoChange, "ask 10"), (NoChange, "ask 0 on 4"), (NoChange, "ask 0 on 0"), (NoChange, "ask 0 on 2 1"),
            (NoChange, "ask 0 on 1 1"), (NoChange, "ask 0 put 1000 0 1"), (NoChange, "ask 0 put 3 1 1"),
            (NoChange, "ask 0 put 3 0 1000000001"), (NoChange, "ask 0 put 4 0 1 3 0 1"), (NoChange, "ask 999999999999"),
            (NoChange, "withdraw 0"), (NoChange, "withdraw 4"), (TooLate, "withdraw 1"), (TooLate, "withdraw 3"),
            (NoLook, "yes 1"), (NoLook, "no 0"), (NoLook, "unsure 2"), (NoLook, "yes 2 1"), (NoLook, "yes 1 2 2"),
            (NoLook, "yes 999999999999"), (NoChange, "why 0"), (NoChange, "why 4"), (NoChange, "why 999999999999"),
        ):
            with self.subTest(text=text):
                self.assert_refused(desk, refusal, text)
        self.assert_says(desk, ("no 1 2", "no"))

    def test_too_many(self):
        desk = desk_with(*asks(60))
        self.assert_refused(desk, TooMany, "ask 0")
        self.assert_refused(desk, NoChange, "ask 10")
        self.assert_refused(desk, NoChange, "why 61")
        self.assert_says(desk, ("back", "ok"), ("ask 0", "60"))

    def test_twenty_edits_and_one_more(self):
        desk = Desk(3, 1, 1, 1)
        edits = [f" {slot} 0 1" for slot in range(21)]
        self.assert_refused(desk, NoChange, "ask 0 put" + "".join(edits))
        self.assert_says(desk, ("ask 0 put" + "".join(edits[:20]), "1"))

    def test_texts_that_are_none(self):
        for desk in (Desk(3, 1, 1, 1), desk_with(*asks(3), "yes 1")):
            for text in NO_TEXTS:
                with self.subTest(text=text):
                    self.assert_refused(desk, NoText, text)


class StateTest(DeskTest):
    def test_wanted_with_several_looks(self):
        desk = desk_with("stop", *asks(5), "go", settings=(4, 3, 1, 1))
        self.assert_says(
            desk, ("wanted", "1; 1 2; 1 2 3 4"), ("yes 1 2", "yes"), ("wanted", "1 2 3; 1 2 3 4; 1 2 3 4 5"),
            ("no 1 2 3 4", "no"), ("wanted", "1 2 3"), ("yes 1 2 3", "yes"), ("wanted", "1 2 3 5"),
        )

    def test_line_and_laid_in_their_order(self):
        desk = desk_with("stop", "ask 1", "ask 9", "ask 5", "go")
        self.assert_says(desk, ("laid", "2 3 1"), ("yes 2 3 1", "yes"), ("line", "2 3 1"), ("laid", "none"))

    def test_waiting_rising(self):
        desk = desk_with("stop", "ask 1", "ask 9", "ask 5", "ask 7", "go", settings=(1, 1, 1, 1))
        self.assert_says(desk, ("laid", "2"), ("waiting", "1 3 4"))

    def test_the_sheet_is_the_lines(self):
        desk = desk_with("ask 0 put 3 0 7 999 0 1", "ask 0 put 0 0 1000000000 3 7 0")
        self.assert_says(desk, ("sheet", "none"), ("yes 1", "yes"), ("sheet", "3=7 999=1"))
        self.assert_says(desk, ("yes 1 2", "yes"), ("sheet", "0=1000000000 999=1"))


class WhyTest(DeskTest):
    def test_in_and_laid(self):
        desk = desk_with("stop", "ask 1", "ask 9", "go")
        self.assert_says(desk, ("why 2", "laid 0"), ("why 1", "laid 1"), ("yes 2 1", "yes"))
        self.assert_says(desk, ("why 2", "in 0"), ("why 1", "in 1"))

    def test_stopped(self):
        self.assert_says(desk_with(*asks(2), "stop"), ("why 1", "stopped"), ("why 2", "stopped"))

    def test_leans(self):
        desk = desk_with("stop", "ask 9", "ask 0", "ask 0", "ask 0 on 1 2 3", "ask 0 on 4", "go", settings=(1, 1, 1, 1))
        self.assert_says(desk, ("why 4", "leans 2 3"), ("why 5", "leans 4"))

    def test_halving(self):
        desk = desk_with("stop", *asks(6), "go", "no 1 2 3 4", settings=(4, 1, 1, 1))
        self.assert_says(desk, ("why 5", "halving 4"), ("unsure 1 2", "unsure"), ("why 6", "halving 2"))

    def test_unfit(self):
        self.assert_says(desk_with("ask 0", "ask 0 put 3 0 1 5 1 2 7 1 2"), ("why 2", "unfit 5"))

    def test_turn(self):
        desk = desk_with("ask 0", "ask 1", "ask 2", settings=(1, 1, 1, 1))
        self.assert_says(desk, ("why 3", "turn 0"), ("why 2", "turn 1"))

    def test_out(self):
        desk = desk_with("ask 0", "ask 0 on 1", "ask 0 put 3 1 2", "withdraw 1")
        self.assert_says(desk, ("why 1", "out withdrawn"), ("why 2", "out leans 1"), ("why 3", "out unfit 3"))

    def test_out_by_a_look_with_its_word_and_the_second_look(self):
        for word in ("no", "unsure"):
            desk = desk_with(*asks(1), f"{word} 1")
            self.assert_says(desk, ("why 1", f"out {word} 1"))
            desk = desk_with("stop", *asks(4), "go", "yes 1 2 3", f"{word} 1 2 3 4")
            self.assert_says(desk, ("why 4", f"out {word} 1 2 3 4"), ("why 3", "in 2"))


class BookTest(DeskTest):
    def test_the_rows_as_they_were_told(self):
        texts = (
            "ask 4 put 3 0 7", "ask 0 on 1 put 3 7 8 4 0 1", "go", "ask 9", "stop", "stop", "go", "ask 1 on 1 2 3",
            "yes 3 1 2", "withdraw 4", "ask 0", "unsure 3 1 2 5",
        )
        desk = Desk(3, 1, 1, 1)
        for many, text in enumerate(texts):
            self.assert_says(desk, ("book", "\n".join(texts[:many])))
            desk.say(text)
        self.assert_says(desk, ("book", "\n".join(texts)))

    def test_refused_texts_and_questions_are_not_in_it(self):
        desk = desk_with("ask 0", "line", "why 1", "wanted", "book")
        self.assert_refused(desk, NoChange, "ask 10")
        self.assert_refused(desk, NoText, "Stop")
        self.assert_refused(desk, NoLook, "yes 2")
        self.assert_says(desk, ("book", "ask 0"))

    def test_told_row_by_row_to_a_new_desk(self):
        desk = Desk(3, 1, 1, 1)
        for text, answer in TALK:
            desk.say(text)
            self.assertEqual(shown(told_again(desk)), shown(desk))

    def test_a_new_desk_goes_on_alike(self):
        settings = (2, 2, 2, 3)
        desk = desk_with(*asks(4), "yes 1", "no 1 2", settings=settings)
        again = told_again(desk, settings)
        for text in ("no 1 2", "yes 1", "no 1 3", "ask 0 on 3", "unsure 1 3", "unsure 1 3"):
            try:
                told = desk.say(text)
            except LinegateError as refusal:
                with self.assertRaises(refusal.__class__):
                    again.say(text)
            else:
                self.assertEqual(again.say(text), told)
            self.assertEqual(shown(again), shown(desk))


class BackTest(DeskTest):
    def test_where_no_row_is_left(self):
        desk = Desk(3, 1, 1, 1)
        self.assert_refused(desk, NoRow, "back")
        desk.say("ask 0")
        self.assert_says(desk, ("back", "ok"), ("book", ""), ("laid", "none"))
        self.assert_refused(desk, NoRow, "back")

    def test_as_if_the_row_had_never_been_told(self):
        texts = [text for text, answer in TALK[:46] if text.split(" ")[0] not in TOLD + ("why",)]
        desk = desk_with(*texts)
        for many in range(len(texts) - 1, -1, -1):
            self.assert_says(desk, ("back", "ok"))
            self.assertEqual(shown(desk), shown(desk_with(*texts[:many])))

    def test_it_is_no_row_itself(self):
        desk = desk_with("ask 0", "ask 1")
        self.assert_says(desk, ("back", "ok"), ("book", "ask 0"), ("ask 5", "2"), ("book", "ask 0\nask 5"))

    def test_questions_and_refused_texts_are_not_taken_back(self):
        desk = desk_with("ask 0", "ask 1", "line", "why 1")
        self.assert_refused(desk, NoChange, "why 3")
        self.assert_says(desk, ("back", "ok"), ("book", "ask 0"))

    def test_told_again(self):
        desk = desk_with("ask 0", "yes 1", "back")
        self.assert_says(desk, ("wanted", "1"), ("no 1", "no"), ("back", "ok"), ("yes 1", "yes"), ("line", "1"))


class AskedTest(DeskTest):
    def test_nothing_hangs_on_what_was_asked_before(self):
        asked, unasked = Desk(3, 1, 1, 1), Desk(3, 1, 1, 1)
        for text, answer in TALK:
            shown(asked)
            self.assertEqual(asked.say(text), unasked.say(text))
        self.assertEqual(shown(asked), shown(unasked))


if __name__ == "__main__":
    unittest.main()
