"""Rows as texts: the words that tell a deed, read and shown."""

from linegate.errors import NoText
from linegate.tallies import WORDS

FIGURES = "0123456789"
MOST_FIGURES = 12


def read_row(text):
    """The row that the text of a deed tells."""
    # Parted by the blank alone: other signs that look empty are no part of a text.
    words = text.split(" ")
    if words[0] == "ask":
        return read_ask(words[1:])
    numbers = read_numbers(words[1:])
    if words[0] in WORDS and numbers:
        return ("answer", numbers, words[0])
    if words[0] == "withdraw" and len(numbers) == 1:
        return ("withdraw", numbers[0])
    if text in ("stop", "go"):
        return (text,)
    raise NoText("this text tells no deed")


def shown_row(row):
    """The text of a row."""
    if row[0] == "ask":
        return shown_ask(row[1], row[2], row[3])
    if row[0] == "answer":
        return row[2] + " " + shown_parts(row[1])
    return shown_parts(row)


def read_ask(words):
    """The row that the words behind ask tell."""
    ahead = words_ahead(words, "put")
    rank = words_ahead(ahead, "on")
    if len(rank) != 1:
        raise NoText("an ask has one rank")
    leans = numbers_behind(ahead, "on")
    return ("ask", read_number(rank[0]), leans, in_threes(numbers_behind(words, "put")))


def words_ahead(words, mark):
    """The words ahead of a mark, all where it is not there."""
    return words[:words.index(mark)] if mark in words else words


def numbers_behind(words, mark):
    """The numbers that the words behind a mark tell, none where it is not there."""
    if mark not in words:
        return ()
    numbers = read_numbers(words[words.index(mark) + 1:])
    if not numbers:
        raise NoText(f"nothing stands behind {mark}")
    return numbers


def in_threes(numbers):
    """The numbers as tuples of three each."""
    if len(numbers) % 3 != 0:
        raise NoText("each edit has a slot, an old and a new value")
    return tuple([numbers[start:start + 3] for start in range(0, len(numbers), 3)])


def read_numbers(words):
    """The numbers that words tell, as a tuple."""
    return tuple([read_number(word) for word in words])


def read_number(word):
    """The number that a word tells."""
    if not is_number(word):
        raise NoText("a number has one to twelve figures, and no 0 ahead")
    return int(word)


def is_number(word):
    """Whether a word is a number as a text tells it."""
    if not (1 <= len(word) <= MOST_FIGURES and all([sign in FIGURES for sign in word])):
        return False
    return word == "0" or not word.startswith("0")


def shown_ask(rank, leans, edits):
    """The text of an ask."""
    parts = ["ask", rank]
    if leans:
        parts.append("on")
        parts.extend(leans)
    if edits:
        parts.append("put")
        for edit in edits:
            parts.extend(edit)
    return shown_parts(parts)


def shown_parts(parts):
    """Words and numbers, parted by blanks."""
    return " ".join([str(part) for part in parts])
