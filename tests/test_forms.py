"""Reading written forms, and the wrong lines of texts that are none."""

import re
import unittest

from shrunkrooms.errors import InvalidText
from shrunkrooms.forms import read
from shrunkrooms.makers import sign_team
from shrunkrooms.ratios import Ratio
from shrunkrooms.teams import Team
from shrunkrooms.texts import is_form, written
from tests.test_texts import EVERY_PLACE, SORTS, forms, reference_written
from tests.tools import NO_LISTS, STRANGE, Case, Draw, unit

NUMBER = re.compile(r"(0|-?[1-9][0-9]*)(/([1-9][0-9]*))?")
COUNT = re.compile(r"0|[1-9][0-9]*")


def a_number(word):
    """The number that a word looks like; it is compared with the word when it is written again."""
    found = NUMBER.fullmatch(word)
    return None if found is None else Ratio(int(found[1]), int(found[3] or 1))


def looks_like(lines):
    """The sort and value that complete lines look like, or None; nothing but the looks of single lines is seen to."""
    words = [line.split(" ") for line in lines]
    sort, head = words[0][0], words[0][1:]
    rows = [[a_number(word) for word in line[1:]] for line in words[1:]]
    if sort == "numbers":
        return sort, [a_number(word) for word in head]
    if sort in ("table", "grid"):
        return sort, rows
    if sort == "places":
        return sort, [tuple(int(word) if COUNT.fullmatch(word) else -1 for word in line[1:]) for line in words[1:]]
    tall = int(head[1]) if len(head) == 3 and COUNT.fullmatch(head[1]) and head[1] != "0" else 1
    tables = [rows[at:at + tall] for at in range(0, len(rows), tall)]
    try:
        return sort, Team(tables) if sort == "team" else tables
    except ValueError:
        return None


def is_written(lines):
    """Whether these are the lines of a written form: what they look like is one, and is written so."""
    found = looks_like(lines) if lines else None
    return found is not None and found[0] in SORTS and is_form(*found) and (
        reference_written(*found) == "".join(line + "\n" for line in lines))


def can_be_filled(lines):
    """Whether some written form begins with these complete lines."""
    head = lines[0].split(" ")
    more = []
    if head[0] == "table" and len(lines) == 1:
        more = ["row 0"]
    if head[0] in ("team", "helpers") and len(head) == 4 and all(COUNT.fullmatch(word) for word in head[1:]):
        many, tall, wide = [int(word) for word in head[1:]]
        if many * tall * wide <= 16 * 24 * 24:
            more = ["row" + " 0" * wide] * (many * tall - len(lines) + 1)
    return is_written(lines + more)


def reference_wrong_line(text):
    """The first line that no written form has behind the lines ahead; None of a written form."""
    *lines, rest = text.split("\n")
    for many in range(1, len(lines) + 1):
        if not can_be_filled(lines[:many]):
            return many
    if rest == "" and is_written(lines):
        return None
    return len(lines) + 1


def texts():
    """Written forms that are not too long."""
    return [text for text in [written(sort, value) for sort, value in forms()] if len(text) < 400]


def bent_words(draw, text):
    """The text with one word or blank otherwise."""
    words = re.split(r"([ \n])", text)
    for at in range(len(words)):
        before, word, behind = "".join(words[:at]), words[at], "".join(words[at + 1:])
        yield before + behind
        yield before + word + word + behind
        if word in (" ", "\n"):
            for other in (" ", "\n", "", "  ", "\n\n", " \n", "\n ", ",", "_"):
                yield before + other + behind
        else:
            for other in ("0" + word, "-" + word, "+" + word, word + "/1", word + "/2", word + "/0", word + "/02", "-0", "00",
                          "0", "1", "2/4", "0/3", "3/-2", "1/2/3", "/2", "2/", "/", "-", "--1", "1.0", "1e3", "x", "row", "at",
                          "team", "64", "65", "17", "25", "5", word.upper(), word + "x", "-1/3", "7/3", "1000000", "1 1"):
                yield before + other + behind
    if len(words) > 4:
        for _ in range(3):
            one, two = sorted(draw.random.sample(range(0, len(words), 2), 2))
            other = list(words)
            other[one], other[two] = other[two], other[one]
            yield "".join(other)


def bent_lines(draw, text):
    """The text with one line left out, put in, doubled, exchanged; with the end otherwise; joined with another one."""
    lines = text.splitlines(keepends=True)
    for at in range(len(lines)):
        yield "".join(lines[:at] + lines[at + 1:])
        yield "".join(lines[:at] + [lines[at]] * 2 + lines[at + 1:])
        yield "".join(lines[:at])
        for other in ("row 1\n", "row 0 0\n", "row 1/2 0 0\n", "at 0 0\n", "at 63 63\n", "\n", "grid\n", "row\n", " \n"):
            yield "".join(lines[:at] + [other] + lines[at:])
            yield "".join(lines[:at] + [other] + lines[at + 1:])
    if len(lines) > 1:
        one, two = sorted(draw.random.sample(range(len(lines)), 2))
        yield "".join(lines[:one] + [lines[two]] + lines[one + 1:two] + [lines[one]] + lines[two + 1:])
        yield "".join(lines[::-1])
    for other in (text[:-1], text + "\n", text + " ", text[:-1] + " ", text[:-1] + " \n", " " + text, "\n" + text, text + "row",
                  text[:-2], text + text, text[:-1] + text, text + "x", text[1:]):
        yield other


class WrongLines(Case):
    def check(self, text):
        line = reference_wrong_line(text)
        if line is None:
            self.assertEqual(written(*read(text)), text)
        else:
            self.fails(InvalidText, {"line": line}, read, text)
        return line

    def fails(self, error, attributes, function, *given, **named):
        """As of all cases, but numbers are compared by their worth, and are no bools."""
        with self.assertRaises(error) as held:
            function(*given, **named)
        self.assertIs(held.exception.__class__, error)
        self.assertEqual(vars(held.exception), attributes)
        self.assertIs(held.exception.line.__class__, int)

    def test_bent_texts(self):
        draw = Draw(271)
        seen = set()
        for text in texts()[::2]:
            for other in list(bent_lines(draw, text)) + (list(bent_words(draw, text)) if len(text) < 60 else []):
                seen.add(self.check(other))
        self.assertLessEqual({None, 1, 2, 3, 4, 5}, seen)

    def test_joined_texts(self):
        found = texts()
        for one, two in zip(found, found[3:] + found[:3]):
            self.check(one + two)
            self.check(one[:-1] + two)
        for sort in SORTS:
            for other in SORTS:
                self.check(sort + "\n" + other + "\n")

    def test_told_ones(self):
        for text, line in [("", 1), ("\n", 1), (" ", 1), ("x", 1), ("table", 1), ("table\n", 2), ("table\n\n", 2), ("grid", 1),
                           ("grid\n\n", 2), ("grid\nrow", 2), ("grid\nrow\n", 2), ("grid\nrow 1", 2), ("grid \n", 1),
                           ("team 17 1 1\n", 1), ("team 0 1 1\n", 1), ("team 1 5 1\n", 1), ("team 1 1 5\n", 1), ("team 1 0 1\n", 1),
                           ("team 1 1\n", 1), ("team 1 1 1 1\n", 1), ("team 01 1 1\nrow 1\n", 1), ("team 1 1 1\n", 2),
                           ("team 1 1 1\nrow 1 2\n", 2), ("team 1 1 2\nrow 1\n", 2), ("team 1 1 1\nrow 1\nrow 2\n", 3),
                           ("team 2 1 1\nrow 1\n", 3), ("team 1 1 1\nrow 1\n\n", 3), ("team 1 1 1\nrow 1\nx", 3),
                           ("helpers 1 25 1\n", 1), ("helpers 1 1 25\n", 1), ("helpers 16 24 24\n", 2), ("helpers 17 1 1\n", 1),
                           ("numbers\n", 1), ("numbers 1\nnumbers 1\n", 2), ("numbers 1\nrow 1\n", 2), ("numbers 1\n\n", 2),
                           ("numbers 2/4\n", 1), ("numbers 1/1\n", 1), ("numbers 1/0\n", 1), ("numbers -0\n", 1),
                           ("numbers 0/2\n", 1), ("numbers 1/-2\n", 1), ("numbers +1\n", 1), ("numbers 1 \n", 1), ("numbers  1\n", 1),
                           ("places\nat 0 1\nat 0 1\n", 3), ("places\nat 0 1\nat 0 0\n", 3), ("places\nat 1 0\nat 0 9\n", 3),
                           ("places\nat 64 0\n", 2), ("places\nat 0 64\n", 2), ("places\nat 0\n", 2), ("places\nat 0 1 2\n", 2),
                           ("places\nat 0 -1\n", 2), ("places\nat 0 01\n", 2), ("places\nrow 0 1\n", 2), ("grid\nat 0 1\n", 2),
                           ("table\nrow 1 2\nrow 1\n", 3), ("table\nrow 1\nrow 1 2\n", 3), ("Table\nrow 1\n", 1),
                           ("row 1\n", 1), ("table row 1\n", 1), ("table\nrow 1\nrow 1/2", 3)]:
            self.fails(InvalidText, {"line": line}, read, text)
            self.fails(InvalidText, {"line": line}, read, text=text)
            self.assertEqual(reference_wrong_line(text), line)

    def test_bounds(self):
        self.assertEqual(read("table\n" + "row 1\n" * 96), ("table", [[Ratio(1)]] * 96))
        self.fails(InvalidText, {"line": 98}, read, "table\n" + "row 1\n" * 97)
        self.fails(InvalidText, {"line": 66}, read, "grid\n" + "row 1\n" * 65)
        self.fails(InvalidText, {"line": 2}, read, "table\nrow" + " 1" * 97 + "\n")
        self.fails(InvalidText, {"line": 2}, read, "grid\nrow" + " 1" * 65 + "\n")
        self.fails(InvalidText, {"line": 1}, read, "numbers" + " 1" * 65 + "\n")
        at_lines = [f"at {i} {j}\n" for i, j in EVERY_PLACE[:65]]
        self.assertEqual(read("places\n" + "".join(at_lines[:64])), ("places", EVERY_PLACE[:64]))
        self.fails(InvalidText, {"line": 66}, read, "places\n" + "".join(at_lines))
        text = written("helpers", [unit(24)] * 16)
        self.assertEqual(read(text)[0], "helpers")
        self.fails(InvalidText, {"line": 386}, read, text + "row" + " 0" * 24 + "\n")
        self.fails(InvalidText, {"line": 385}, read, text[:-1])
        self.fails(InvalidText, {"line": 385}, read, "".join(text.splitlines(keepends=True)[:-1]))
        self.fails(InvalidText, {"line": 385}, read, text[:-2] + " 1\n")
        text = written("team", Team([unit(4)] * 16))
        self.fails(InvalidText, {"line": 66}, read, text + "row 0 0 0 0\n")
        self.fails(InvalidText, {"line": 65}, read, text[:-1])

    def test_no_strings(self):
        for value in [value for value in STRANGE + NO_LISTS if not isinstance(value, str)] + [0, 1, sign_team(), ["grid\n"],
                                                                                               ("grid\n",), b"grid\n", [], ()]:
            self.fails(InvalidText, {"line": 0}, read, value)
            self.fails(InvalidText, {"line": 0}, read, text=value)


if __name__ == "__main__":
    unittest.main()
