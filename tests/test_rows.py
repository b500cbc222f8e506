"""Point 26, and point 2 for it: the texts of deeds, read to rows and shown again."""

import copy
import itertools
import random
import unittest

from linegate.errors import LinegateError, NoText
from linegate.rows import read_row, shown_row

TWELVE = 10 ** 12 - 1

PAIRS = (
    ("ask 0", ("ask", 0, (), ())),
    ("ask 9", ("ask", 9, (), ())),
    ("ask 4 on 1", ("ask", 4, (1,), ())),
    ("ask 4 on 1 2 10", ("ask", 4, (1, 2, 10), ())),
    ("ask 4 put 3 0 7", ("ask", 4, (), ((3, 0, 7),))),
    ("ask 4 put 3 0 7 999 1000000000 0", ("ask", 4, (), ((3, 0, 7), (999, 1000000000, 0)))),
    ("ask 4 on 1 put 3 0 7", ("ask", 4, (1,), ((3, 0, 7),))),
    ("ask 7 on 1 5 60 put 0 1 0 3 0 7", ("ask", 7, (1, 5, 60), ((0, 1, 0), (3, 0, 7)))),
    ("withdraw 1", ("withdraw", 1)),
    ("withdraw 60", ("withdraw", 60)),
    ("stop", ("stop",)),
    ("go", ("go",)),
    ("yes 1", ("answer", (1,), "yes")),
    ("no 2 1 3", ("answer", (2, 1, 3), "no")),
    ("unsure 10 9", ("answer", (10, 9), "unsure")),
)
# Texts of deeds by their form, whatever a gate says of their numbers.
BEYOND = (
    ("ask 10", ("ask", 10, (), ())),
    ("ask 999999999999 on 0 0 999999999999", ("ask", TWELVE, (0, 0, TWELVE), ())),
    ("ask 0 on 2 1", ("ask", 0, (2, 1), ())),
    ("ask 0 put 5 5 5 4 999999999999 0", ("ask", 0, (), ((5, 5, 5), (4, TWELVE, 0)))),
    ("withdraw 0", ("withdraw", 0)),
    ("withdraw 999999999999", ("withdraw", TWELVE)),
    ("yes 0", ("answer", (0,), "yes")),
    ("no 1 1 1", ("answer", (1, 1, 1), "no")),
    ("unsure 999999999999 0", ("answer", (TWELVE, 0), "unsure")),
)
NO_NUMBERS = (
    "", "00", "01", "007", "0000000000001", "1000000000000", "9999999999999", "-1", "+1", "-0", "1.", ".5", "1.0",
    "1_000", "0x1", "1e3", "one", "a", "on", "put", "1a", "a1", "#", "\u0661", "\u00b2", "\uff11", "1\n", "\t1", "1,",
)
NO_TEXTS = (
    "", " ", "  ", "\n", "ask", "ask ", " ask 1", "ask 1 ", "ask  1", "ask 1 2", "ask 1 2 3", "Ask 1", "ASK 1", "ask1",
    "ask on 1", "ask put 3 0 7", "ask on 1 put 3 0 7", "on 1", "put 3 0 7", "1", "ask\t1", "ask\n1", "ask 1\n",
    "ask 1 on", "ask 1 on ", "ask 1 put", "ask 1 put ", "ask 1 on put", "ask 1 on 1 put", "ask 1 on put 3 0 7",
    "ask 1 put on 1", "ask 1 put on", "ask 1 put 3 0 7 on 1", "ask 1 put 3 0 7 on", "on 1 ask 1", "ask 1 on 1 on 2",
    "ask 1 put 3 0 7 put 4 0 1", "ask 1 put 3", "ask 1 put 3 0", "ask 1 put 3 0 7 4", "ask 1 put 3 0 7 4 0",
    "ask 1 on 1 put 3 0", "ask 1  on 1", "ask 1 on  1", "ask 1 on 1  2", "ask 1 on 1  put 3 0 7", "ask 1 put  3 0 7",
    "ask 1 ON 1", "ask 1 On 1", "ask 1 PUT 3 0 7", "ask 1 at 1", "ask 1 on 1,2", "ask 1 put 3=7", "ask 1 put 3:0:7",
    "withdraw", "withdraw ", "withdraw 1 2", "withdraw  1", " withdraw 1", "withdraw 1 ", "Withdraw 1", "withdraw on 1",
    "stop ", " stop", "stop 1", "Stop", "STOP", "stops", "sto", "stop stop", "go ", " go", "go 1", "Go", "GO", "go go",
    "stop\n", "go\n", "stop\ngo", "yes", "no", "unsure", "yes ", "no ", "unsure ", " yes 1", "yes 1 ", "yes  1",
    "yes 1  2", "Yes 1", "NO 1", "Unsure 1", "yes yes", "yes 1 yes", "1 yes", "yes, 1", "yes 1;", "yes (1)", "more 1",
    "maybe 1", "answer 1 yes", "answer", "yes1", "yes\t1", "~", "*", "$ 1", "ask 1 # 2", "why 1", "line", "laid",
    "waiting", "wanted", "sheet", "book", "back", "none", "ok",
)


class RowsTest(unittest.TestCase):
    def assert_no_text(self, text):
        with self.assertRaises(LinegateError) as caught:
            read_row(text)
        self.assertIs(caught.exception.__class__, NoText)

    def assert_tuples(self, thing):
        if isinstance(thing, tuple):
            for part in thing:
                self.assert_tuples(part)
        else:
            self.assertIn(type(thing), (int, str))


class ReadRowTest(RowsTest):
    def test_each_text_of_a_deed(self):
        for text, row in PAIRS + BEYOND:
            with self.subTest(text=text):
                self.assertEqual(read_row(text), row)
                self.assert_tuples(read_row(text))

    def test_numbers_of_one_and_of_twelve_figures(self):
        for number in (0, 1, 9, 10, 100, 123456789012, 100000000000, TWELVE):
            self.assertEqual(read_row(f"ask {number}"), ("ask", number, (), ()))
            self.assertEqual(read_row(f"ask 1 on {number}"), ("ask", 1, (number,), ()))
            self.assertEqual(read_row(f"ask 1 put {number} 0 {number}"), ("ask", 1, (), ((number, 0, number),)))
            self.assertEqual(read_row(f"withdraw {number}"), ("withdraw", number))
            self.assertEqual(read_row(f"yes 1 {number}"), ("answer", (1, number), "yes"))

    def test_every_count_of_figures(self):
        for figures in range(1, 16):
            text = "withdraw " + "1" * figures
            if figures <= 12:
                self.assertEqual(read_row(text), ("withdraw", int("1" * figures)))
            else:
                self.assert_no_text(text)

    def test_words_that_are_no_numbers(self):
        forms = ("ask {}", "ask 1 on {}", "ask 1 on 1 {}", "ask 1 put {} 0 1", "ask 1 put 1 {} 1", "ask 1 put 1 0 {}",
                 "ask 1 on 1 put 2 0 1 3 0 {}", "withdraw {}", "yes {}", "no 1 {}", "unsure {} 1")
        for form, word in itertools.product(forms, NO_NUMBERS):
            with self.subTest(form=form, word=word):
                self.assert_no_text(form.format(word))

    def test_texts_that_are_none(self):
        for text in NO_TEXTS:
            with self.subTest(text=text):
                self.assert_no_text(text)

    def test_numbers_of_numbers_behind_put(self):
        for many in range(13):
            text = " ".join(["ask 1 put"] + [str(number) for number in range(many)])
            if many % 3 == 0 and many:
                self.assertEqual(len(read_row(text)[3]), many // 3)
            else:
                self.assert_no_text(text)

    def test_one_sign_more_or_less(self):
        told = dict(PAIRS + BEYOND)
        for text in told:
            for place in range(len(text) + 1):
                for sign in " 0a-":
                    self.assert_read_or_refused(text[:place] + sign + text[place:])
                self.assert_read_or_refused(text[:place] + text[place + 1:])

    def assert_read_or_refused(self, text):
        """What is read at all is shown sign for sign; all else is refused with NoText."""
        try:
            row = read_row(text)
        except LinegateError as refusal:
            self.assertIs(refusal.__class__, NoText)
        else:
            self.assertEqual(shown_row(row), text)


class ShownRowTest(RowsTest):
    def test_shown_again_sign_for_sign(self):
        for text, row in PAIRS + BEYOND:
            with self.subTest(text=text):
                self.assertEqual(shown_row(row), text)
                self.assertIs(type(shown_row(row)), str)
                self.assertEqual(shown_row(read_row(text)), text)
                self.assertEqual(read_row(shown_row(row)), row)

    def test_leans_and_edits_as_lists(self):
        for first, second in itertools.product((list, tuple), repeat=2):
            self.assertEqual(shown_row(("ask", 4, first([1, 2]), second([(3, 0, 7)]))), "ask 4 on 1 2 put 3 0 7")
            self.assertEqual(shown_row(("ask", 4, first([]), second([]))), "ask 4")

    def test_what_is_handed_in_stays(self):
        row = ("ask", 4, [1, 2], [(3, 0, 7), (4, 0, 1)])
        kept = copy.deepcopy(row)
        shown_row(row)
        self.assertEqual(row, kept)

    def test_the_greatest_ask(self):
        row = ("ask", 9, tuple(range(1, 60)), tuple((slot, 1000000000, 0) for slot in range(980, 1000)))
        leans = "".join(f" {number}" for number in range(1, 60))
        edits = "".join(f" {slot} 1000000000 0" for slot in range(980, 1000))
        self.assertEqual(shown_row(row), "ask 9 on" + leans + " put" + edits)
        self.assertEqual(read_row(shown_row(row)), row)

    def test_rows_by_chance(self):
        chance = random.Random(26)

        def numbers(least, most):
            many = chance.randint(least, most)
            return tuple(chance.randrange(10 ** chance.randint(1, 12)) for turn in range(many))

        for turn in range(300):
            row = chance.choice((
                ("ask", numbers(1, 1)[0], numbers(0, 4), tuple(numbers(3, 3) for edit in range(chance.randint(0, 3)))),
                ("withdraw", numbers(1, 1)[0]), ("answer", numbers(1, 6), chance.choice(("yes", "no", "unsure"))),
                ("stop",), ("go",),
            ))
            text = shown_row(row)
            self.assertEqual(read_row(text), row)
            self.assertRegex(text, r"\A[a-z0-9]+( [a-z0-9]+)*\Z")


if __name__ == "__main__":
    unittest.main()
