"""Names, commands and deeds, by their words alone."""

import unittest

from shrunkrooms.commands import is_command, is_deed, is_name
from shrunkrooms.ratios import Ratio
from tests.tools import NO_LISTS, STRANGE, Case

NO_STRINGS = [value for value in STRANGE + NO_LISTS if not isinstance(value, str)] + [["names"], ("names",), b"names", ["undo"]]

# Each deed and each other command, with words of all kinds that it may have.
DEEDS = [
    "team t 1", "team t 1,0;0,1 0,1/2;-3,0", "pattern p 1 1 00", "pattern p 4 4 00 13 33", "pattern p 0 99 99 00 00",
    "pairs p 1:1", "pairs p 1,0:0,1,1 2/3,4:1,1,1", "signs s", "upright u t", "without w t 0", "without w t 99", "with w t 1,2",
    "with w t 1,2;3,4", "beside b t u", "beside b t t", "letters l t 1 2", "letters l t 1,0;0,1 2", "remixed r t 1,2 3,4",
    "remixed r t 1", "behind b r", "within w r", "room r t", "room r t 1,0", "room r t 1,0 0,1 1", "least l t", "greatest g t",
    "lossy l t", "joined j r s", "shared s r r", "helpers h t 1 1", "helpers h t 1,0;0,1 1", "free f t", "entry t 0 0 0 1",
    "entry t 99 99 99 -999999/999998", "drop t", "claim k lacks t 1", "claim k keeps t 99", "claim k full t", "claim k shrunk t",
    "claim k simple t", "claim k falls t", "claim k fades t", "claim k lasts t", "claim k most r", "claim k less r",
    "claim k fair t 1 3", "claim k unfair t 0 0", "forget k", "claim full full full", "room room team", "drop a1b2c3d4",
    "team team " + ",".join(["1"] * 16), "team t " + ";".join(["-1/2"] * 16), "team t " + " ".join(["0"] * 40),
    "pattern p 9 9 " + " ".join(f"{i}{j}" for i in range(10) for j in range(10))]
OTHERS = ["undo", "redo", "state k", "states", "claimed k", "names", "show t", "size t", "lack t", "plain t", "three t", "loss r",
          "made r", "rank h", "blocks t", "slopes t", "same r s", "same t t", "show show", "state state"]
# The words of both tables that take any number of words at the end.
LONGER = ("team", "pattern", "pairs", "remixed", "room", "helpers")


class Names(Case):
    def test_names(self):
        for value in ["a", "z", "t1", "abcdefgh", "a1234567", "z0", "gone", "x9y8z7"]:
            self.assertIs(self.told(is_name, value), True)
            self.assertIs(is_name(value=value), True)
            self.assertIs(is_command(f"drop {value}"), True)

    def test_no_names(self):
        for value in NO_STRINGS + ["", "1", "0a", "abcdefghi", "A", "aB", "a b", " a", "a ", "a-b", "a_b", "_a", "a.b", "a\n", "\n", "-",
                                   "a,b", "a;b", "a:b", "a" * 100, "a/b", "9", "`", "{", "a{", "a`", "a:", "a/", "a@", "a["]:
            self.assertIs(is_name(value), False, value)
            self.assertIs(is_name(value=value), False)
            if isinstance(value, str):
                self.assertIs(is_command(f"drop {value}"), False, value)
                self.assertIs(is_command(f"claim {value} full t"), False)
                self.assertIs(is_command(f"signs {value}"), False)


class Commands(Case):
    def check(self, command, told, deed):
        self.assertIs(is_command(command), told, command)
        self.assertIs(is_deed(command), deed, command)

    def test_all_commands(self):
        for command in DEEDS:
            self.check(command, True, True)
            self.assertIs(self.told(is_deed, value=command), True)
        for command in OTHERS:
            self.check(command, True, False)
            self.assertIs(self.told(is_command, value=command), True)
        self.assertEqual(len({command.split(" ")[0] for command in DEEDS}), 24)
        self.assertEqual(len({command.split(" ")[0] for command in OTHERS}), 17)

    def test_no_strings(self):
        for value in NO_STRINGS:
            self.check(value, False, False)

    def test_a_word_left_out(self):
        shortest = ["team t 1", "pattern p 1 1 00", "pairs p 1:1", "remixed r t 1", "room r t", "helpers h t 1"]
        for command in shortest + [command for command in DEEDS + OTHERS if command.split(" ")[0] not in LONGER]:
            words = command.split(" ")
            for at in range(len(words)):
                self.check(" ".join(words[:at] + words[at + 1:]), False, False)

    def test_a_word_put_in_or_doubled(self):
        for command in DEEDS + OTHERS:
            words = command.split(" ")
            for extra in ("", "x", "1", "T", "1,0", "00", "t"):
                if words[0] in LONGER and extra not in ("", "x", "T", "t"):
                    continue
                self.check(command + " " + extra, False, False)
            self.check(" " + command, False, False)
            self.check(command + " ", False, False)
            self.check(command + "\n", False, False)
            self.check(command.replace(" ", "  ", 1), command.count(" ") == 0, command.count(" ") == 0 and command in DEEDS)
            self.check(words[0] + " " + command, False, False)
            self.check(command.upper(), False, False)
            self.check(command.capitalize(), False, False)
            self.check("x" + command, False, False)
            self.check(words[0] + "x" + command[len(words[0]):], False, False)
            self.check(command.replace(" ", "\n", 1), command.count(" ") == 0, command.count(" ") == 0 and command in DEEDS)
            self.check(command.replace(" ", ",", 1), command.count(" ") == 0, command.count(" ") == 0 and command in DEEDS)

    def check_all(self, text, right, wrong):
        for word in right:
            self.check(text.replace("?", word), True, True)
        for word in wrong:
            self.check(text.replace("?", word), False, False)

    def test_numbers(self):
        right = ["0", "1", "-1", "999999", "-999999", "1/2", "-1/2", "999999/999998", "1/999999", "10", "100000"]
        wrong = ["", "-0", "00", "01", "-01", "+1", "1000000", "-1000000", "1/1000000", "1000000/3", "1/1", "2/4", "0/2", "1/0", "1/-2",
                 "1/02", "01/2", "1/", "/2", "/", "-", "--1", "1-", "1.0", "1e3", "1/2/3", "x", "a", " ", "1 ", "0x1", "1_0", "(1)", "1/2 "]
        self.check_all("entry t 0 0 0 ?", right, wrong)
        self.check_all("team t ?", right, wrong)
        self.check_all("room r t ?,2 3,4", right, wrong)
        self.check_all("room r t 1,?", right, wrong)
        self.check_all("pairs p 1,?:1", right, wrong)
        self.check_all("letters l t 1 1,2;?,3", right, wrong)

    def test_counts(self):
        right = ["0", "1", "9", "10", "99"]
        wrong = ["", "00", "01", "100", "-1", "-0", "1/2", "1.0", "x", "a1", "+1", " ", "010", "999999"]
        for text in ("without w t ?", "entry t ? 0 0 1", "entry t 0 ? 0 1", "entry t 0 0 ? 1", "claim k lacks t ?", "claim k fair t ? 1",
                     "claim k unfair t 1 ?", "pattern p ? 1 00", "pattern p 1 ? 00"):
            self.check_all(text, right, wrong)

    def test_places(self):
        right = ["00", "01", "10", "99", "00 00", "33 12 00"]
        wrong = ["", "0", "000", "0,0", "0 0", "x0", "0x", "-1", "a", "(0,0)", "00 ", "00,01", "1/", " 00", "+1"]
        self.check_all("pattern p 4 4 ?", right, wrong)

    def test_lists_and_tables(self):
        right = ["1", "1,2", "1;2", "1,2;3,4", ",".join(["1"] * 16), ";".join(["1"] * 16), "1,2;-3,1/4;0,0"]
        wrong = ["", ",", "1,", ",1", "1,,2", ";", "1;", ";1", "1;;2", "1,2;3", "1;2,3", "1,2;3,4;5", ",".join(["1"] * 17),
                 ";".join(["1"] * 17), "1:2", "1,2;", "1;2 ", "[1]", "1, 2", "x", "1;x", "1,x"]
        for text in ("team t ?", "team t ? 1", "team t 1 ?", "helpers h t ?", "with w t ?", "letters l t ? 1", "letters l t 1 ?"):
            self.check_all(text, right, wrong)
        right = ["1", "1,2", ",".join(["1"] * 16), "1,2 3", "1 1,2,3"]
        wrong = ["", ",", "1,", ",1", "1,,2", "1;2", ",".join(["1"] * 17), "1:2", "1 ", " 1", "1,2 ;", "x"]
        for text in ("room r t ?", "remixed r t ?"):
            self.check_all(text, right, wrong)
        right = ["1:1", "1,2:3", "1:2,3,4", "1:1 2:2", "1,2:3 4:5,6", ",".join(["1"] * 16) + ":1"]
        wrong = ["", ":", "1:", ":1", "1", "1:2:3", "1:2;3", "1;2:3", "1::2", "1:2,", "1: 2", ",".join(["1"] * 17) + ":1", "1,2", "1:2 3",
                 "1:" + ",".join(["1"] * 17)]
        self.check_all("pairs p ?", right, wrong)

    def test_claims(self):
        for word in ("full", "shrunk", "simple", "falls", "fades", "lasts", "most", "less"):
            self.check(f"claim k {word} t", True, True)
            self.check(f"claim k {word} t 1", False, False)
            self.check(f"claim k {word}", False, False)
            self.check(f"{word} t", False, False)
        for word in ("lacks", "keeps"):
            self.check(f"claim k {word} t 1", True, True)
            self.check(f"claim k {word} t", False, False)
            self.check(f"claim k {word} t 1 1", False, False)
        for word in ("fair", "unfair"):
            self.check(f"claim k {word} t 1 1", True, True)
            self.check(f"claim k {word} t 1", False, False)
            self.check(f"claim k {word} t 1 1 1", False, False)
        for text in ("claim", "claim k", "claim k t", "claim full t", "claim k Full t", "claim k other t", "claim k team t 1",
                     "claim k claim t", "claim k lacks 1 t", "claim k full 1", "claim 1 full t", "claim k full t u", "claim k  full t",
                     "claim k show t", "claim k state t", "claim k k full t"):
            self.check(text, False, False)

    def test_other_words(self):
        for text in ("", " ", "\n", "x", "help", "undo undo", "undo 1", "redo t", "states k", "names t", "state", "claimed", "show", "size",
                     "same r", "same", "same r s t", "state k l", "show t u", "lack", "lacks t 1", "rank h t", "made", "loss r s", "drop",
                     "drop t u", "forget", "forget k l", "signs", "signs s t", "free f", "upright u", "attach k", "fits k", "copy", "lines",
                     "undo\nredo", "names,", "Names", "NAMES", "entry t 0 0 0", "entry t 0 0 0 1 1", "entry t 0 0 1", "beside b t",
                     "joined j r", "least l t u", "do names", "team", "team t", "pattern p 1 1", "pairs p", "remixed r t", "helpers h t",
                     "room r", "with w t 1 2", "letters l t 1", "letters l t 1 2 3", "without w t", "without w t 0 0"):
            self.check(text, False, False)
        self.check("room r t", True, True)

    def test_worth_of_numbers_is_not_looked_at(self):
        # By its words alone: no team has so many tables, so wide ones, or such places.
        for text in ("team t 1,2,3,4,5", "team t 1 1,2", "without w t 99", "pattern p 0 0 99", "remixed r t 1 1,2", "claim k lacks t 0",
                     "claim k fair t 99 99", "pairs p 1:1 1,2:1", "room r t 1 1,2", "helpers h t 1 1,2 3", "entry t 50 50 50 5"):
            self.check(text, True, True)
        self.assertIs(is_command(Ratio(1)), False)


if __name__ == "__main__":
    unittest.main()
