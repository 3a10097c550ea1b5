"""Written forms of values of six sorts."""

import unittest

from shrunkrooms.errors import InvalidForm, InvalidSort
from shrunkrooms.forms import read
from shrunkrooms.makers import sign_team
from shrunkrooms.ratios import Ratio
from shrunkrooms.teams import Team
from shrunkrooms.texts import is_form, sorts, written
from tests.tools import (NO_LISTS, NO_TABLES, STRANGE, Case, Draw, fraction, other_kinds, ratios, tupled, unit)

SORTS = ["team", "helpers", "table", "grid", "numbers", "places"]
EVERY_PLACE = [(i, j) for i in range(64) for j in range(64)]


def reference_written(sort, value):
    """The written form, put together from what the table of the document tells."""
    rows, head = [], [sort]
    if sort in ("team", "helpers"):
        tables = value.tables() if sort == "team" else value
        head += [str(len(tables)), str(len(tables[0])), str(len(tables[0][0]))]
        rows = [row for table in tables for row in table]
    elif sort == "numbers":
        head += [str(fraction(number)) for number in value]
    elif sort != "places":
        rows = value
    lines = [" ".join(head)] + [" ".join(["row"] + [str(fraction(number)) for number in row]) for row in rows]
    if sort == "places":
        lines += ["at " + str(i) + " " + str(j) for i, j in value]
    return "".join(line + "\n" for line in lines)


def as_read(sort, value):
    """The value with Ratios, and lists, as it is read."""
    if sort == "team":
        return value
    if sort == "numbers":
        return ratios([value])[0]
    if sort == "places":
        return list(value)
    return [ratios(table) for table in value] if sort == "helpers" else ratios(value)


def forms():
    """Values of all sorts, drawn ones and those at their bounds."""
    draw = Draw(270)
    found = [("team", sign_team()), ("team", Team([[[0]]])), ("team", Team([unit(4)] * 16)), ("team", Team([[[1, 2, 3, 4]]])),
             ("team", Team([[[1], [2], [3], [4]]])), ("team", Team([[[Ratio(-999999, 999998), -5]]])),
             ("helpers", [[[1]]]), ("helpers", [[[1] * 24] * 24] * 16), ("helpers", [[[Ratio(1, 2)] * 24]]),
             ("helpers", [[[-1]] * 24] * 2), ("table", [[0]]), ("table", [[1] * 96] * 96), ("table", [[1]] * 96),
             ("table", [[-7] * 96]), ("grid", []), ("grid", [[1] * 64] * 64), ("grid", [[0]] * 64), ("grid", [[Ratio(3, 7)] * 64]),
             ("grid", [[0, 0], [0, 0]]), ("numbers", [0]), ("numbers", [Ratio(1, 3)] * 64), ("numbers", list(range(-32, 32))),
             ("numbers", [10 ** 29, -10 ** 29, Ratio(10 ** 29, 3), Ratio(1, 10 ** 1999)]), ("places", []), ("places", [(0, 0)]),
             ("places", [(63, 63)]), ("places", EVERY_PLACE[:64]), ("places", EVERY_PLACE[-64:]), ("places", [(0, 63), (1, 0)]),
             ("places", [(2, 9), (2, 10), (10, 0)])]
    for _ in range(25):
        many, tall, wide = draw.count(1, 5), draw.count(1, 4), draw.count(1, 4)
        found += [("team", Team([draw.rows(tall, wide) for _ in range(many)])),
                  ("helpers", [draw.rows(tall, wide) for _ in range(many)]),
                  ("table", draw.rows(draw.count(1, 9), draw.count(1, 9))),
                  ("grid", draw.rows(draw.count(0, 9), draw.count(1, 9))), ("numbers", draw.row(draw.count(1, 12))),
                  ("places", sorted(draw.random.sample(EVERY_PLACE, draw.count(0, 20))))]
    return found


def no_forms():
    """Values that are none of a sort, one beyond its bounds, or of another sort."""
    found = {sort: [value for value in NO_LISTS if value != [[1]]] for sort in SORTS}
    found["team"] += [[[[1]]], [], (sign_team(),), [sign_team()], sign_team().tables(), Team]
    found["helpers"] += [[], (), [[[1]]] * 17, [[[1]] * 25], [[[1] * 25]], [[[1]], [[1, 2]]], [[[1]], [[1], [2]]], [[]], [[[]]],
                         [[1]], [[[1, 2], [3]]], [[[True]]], [[["1"]]], [[[1]], None], sign_team(), [[[[1]]]]]
    for sort, most in (("table", 96), ("grid", 64)):
        found[sort] += [value for value in NO_TABLES if value not in ([], ())]
        found[sort] += [[[1]] * (most + 1), [[1] * (most + 1)], [[1, 2], [3]], [[1], [True]], sign_team(), [[1], []]]
    found["table"] += [[], ()]
    found["numbers"] += [[], (), [1] * 65, [1, True], [1, "2"], [[1]], [1, [2]], [1, None], sign_team(), [1, 2.5.__class__]]
    found["places"] += [[(0, 0)] * 2, [(0, 1), (0, 0)], [(1, 0), (0, 5)], [(0, 64)], [(64, 0)], [(-1, 0)], [(0, -1)],
                        EVERY_PLACE[:65], [[0, 0]], [(0,)], [(0, 0, 0)], [(0, True)], [(False, 0)], [(0, Ratio(1))], [(0, "1")],
                        [0, 1], [(0, 0), [0, 1]], [(0, 0), None], (0, 0), ((0, 0), (0, 0)), [(Ratio(0), 0)], ["00"], [()]]
    return found


class Sorts(Case):
    def test_words(self):
        self.assertEqual(self.told(sorts), SORTS)
        self.assertIs(sorts().__class__, list)
        first = sorts()
        first.append("x")
        self.assertEqual(sorts(), SORTS)

    def test_no_sorts(self):
        for value in STRANGE + [0, 1, [], ["team"], ("team",), "Team", "TEAM", "teams", " team", "team ", "rows", "place", b"team",
                                Ratio(1), ["team", "grid"], "team grid", "tea", SORTS]:
            self.fails_value(InvalidSort, value, is_form, value, [])
            self.fails_value(InvalidSort, value, written, value, [])
            self.fails_value(InvalidSort, value, written, value, None)
            self.fails(InvalidSort, {"value": value}, written, value=sign_team(), sort=value)
            self.fails(InvalidSort, {"value": value}, is_form, value=1, sort=value)


class Forms(Case):
    def test_forms(self):
        for sort, value in forms():
            self.assertIs(self.told(is_form, sort, value), True)
            text = self.told(written, sort, value)
            self.assertIs(text.__class__, str)
            self.assertEqual(text, reference_written(sort, value))
            self.assertEqual(written(value=value, sort=sort), text)
            found = self.told(read, text)
            self.assertIs(found.__class__, tuple)
            self.assertEqual(found, (sort, as_read(sort, value)))
            self.assertEqual(repr(found[1]), repr(as_read(sort, value)))
            self.assertEqual(read(text=text), found)
            self.assertEqual(written(*found), text)

    def test_numbers_by_their_worth_and_tuples(self):
        for sort, value in forms():
            if sort not in ("team", "places"):
                for other in (other_kinds(value), tupled(value), other_kinds(tupled(value))):
                    self.assertIs(is_form(sort, other), True)
                    self.assertEqual(written(sort, other), written(sort, value))
            elif sort == "places":
                self.assertEqual(written(sort, tuple(value)), written(sort, value))
        self.assertEqual(written("table", [(1, Ratio(4, 2)), [Ratio(-1, 2), 0]]), "table\nrow 1 2\nrow -1/2 0\n")
        self.assertEqual(written("helpers", ([(1,)], ([Ratio(3)],))), "helpers 2 1 1\nrow 1\nrow 3\n")
        self.assertEqual(written("grid", ()), "grid\n")

    def test_told_ones(self):
        self.assertEqual(written("team", Team([[[1, 0]], [[0, Ratio(1, 2)]]])), "team 2 1 2\nrow 1 0\nrow 0 1/2\n")
        self.assertEqual(written("numbers", [3, Ratio(-1, 2), 0]), "numbers 3 -1/2 0\n")
        self.assertEqual(written("places", [(0, 1), (2, 0)]), "places\nat 0 1\nat 2 0\n")
        self.assertEqual(read("places\nat 0 3\n"), ("places", [(0, 3)]))
        self.assertEqual(read("grid\n"), ("grid", []))
        self.assertEqual(read("helpers 1 2 1\nrow 1\nrow -2/3\n"), ("helpers", [[[Ratio(1)], [Ratio(-2, 3)]]]))
        self.assertIs(read("places\nat 0 3\n")[1][0][0].__class__, int)

    def test_no_forms(self):
        for sort, values in no_forms().items():
            for value in values:
                self.assertIs(is_form(sort, value), False, (sort, value))
                self.assertIs(is_form(value=value, sort=sort), False)
                self.fails_value(InvalidForm, value, written, sort, value)
                self.fails(InvalidForm, {"value": value}, written, value=value, sort=sort)

    def test_values_of_other_sorts(self):
        for sort, value in forms():
            told = [other for other in SORTS if is_form(other, value)]
            self.assertIn(sort, told)
            if sort == "team":
                self.assertEqual(told, ["team"])
            if sort == "helpers":
                self.assertEqual(told, ["helpers"])
            if sort == "numbers":
                self.assertEqual(told, ["numbers"])
            # Tuples are lists also where they stand for rows: so places may be rows of two numbers.
            if sort == "places" and value:
                self.assertEqual(told, ["table", "grid", "places"])


if __name__ == "__main__":
    unittest.main()
