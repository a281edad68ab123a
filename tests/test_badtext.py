"""Where BadText points: [7]."""

import random
import unittest

from backfilled.codes import parse, parse_and_show, show
from backfilled.errors import BadText
from tests_support import SIGNS, WORDS, Codes, fault_in, fields_of, loose

PIECES = [*SIGNS, *WORDS, "a", "shop", "abcdefgh", "0", "1", "30", "31", "9" * 40, "''", "'a b'"]
FAULTS = ["!", "A", "\n", "\t", "'", "'A'", "abcdefghi", "01", "00", "1" * 41, "\u00e9", "_", ".", '"', ">", "'" + "a" * 21 + "'"]


class BadTextTest(unittest.TestCase):
    def points(self, text, at):
        with self.subTest(text=text):
            self.assertEqual(fields_of(self, BadText, parse, text), {"at": at})

    def test_document(self):
        self.points("sales | where amount <", 22)
        self.points("sales minus (sales - 1)", 6)

    def test_values_that_are_no_texts(self):
        for value in [None, True, 0, 5, b"t", ["t"], ("t",), {"t": 1}, object(), 1.5]:
            self.points(value, None)

    def test_every_place(self):
        """Behind each beginning, everything that may not follow it there."""
        names = ["a", "shop", "abcdefgh"]
        numbers = ["0", "1", "30", "31", "9" * 40]
        texts = ["''", "'a b'"]
        steps = ["where", "with", "keep", "rename", "join", "union", "minus", "group"]
        term = [*names, *numbers, *texts, "today", "(", "-"]
        told = ["count", "sum", "least", "greatest"]
        for start, allowed in {
            "": [*names, "("], "(": [*names, "("], "t": ["|", "-", "last"], "(t": ["|", "-", "last", ")"],
            "(t)": ["|"], "((t)": ["|", ")"], "t -": ["1", "30"], "t last": ["1", "30"], "t - 1": ["|"], "t last 1": ["|"],
            "(t last 1": ["|", ")"], "t |": steps, "t | where": [*term, "not", "["], "t | where not": [*term, "not", "["],
            "t | where [": [*term, "not", "["], "t | where a": ["=", "<", "<=", "+", "-", "*"],
            "t | where 5": ["=", "<", "<=", "+", "-", "*"], "t | where 'a'": ["=", "<", "<=", "+", "-", "*"],
            "t | where today": ["=", "<", "<=", "+", "-", "*"], "t | where -": numbers,
            "t | where - 5": ["=", "<", "<=", "+", "-", "*"], "t | where a <": term, "t | where a =": term,
            "t | where a <=": term, "t | where a < b": ["|", "+", "-", "*", "and", "or"],
            "t | where [a < b": ["]", "+", "-", "*", "and", "or"], "t | where [a < b]": ["|", "and", "or"],
            "t | where a < b and": [*term, "not", "["], "t | where a < b or": [*term, "not", "["],
            "t | where (": term, "t | where (a": [")", "+", "-", "*"], "t | where (a)": ["=", "<", "<=", "+", "-", "*"],
            "t | with": names, "t | with x": ["="], "t | with x =": term, "t | with x = a": ["|", "+", "-", "*"],
            "t | with x = a +": term, "t | with x = a -": term, "t | with x = a *": term, "t | with x = -": numbers,
            "t | with x = (a)": ["|", "+", "-", "*"], "t | keep": names, "t | keep a": [*names, "|"],
            "t | rename": names, "t | rename a": names, "t | rename a b": ["|"], "t | join": [*names, "("],
            "t | union": [*names, "("], "t | minus": [*names, "("], "t | join u": ["|", "-", "last"],
            "t | minus (u)": ["|"], "t | group": [*names, ":"], "t | group a": [*names, ":"], "t | group:": names,
            "t | group a:": names, "t | group: x": ["="], "t | group: x =": told, "t | group: x = count": ["|", ","],
            "t | group: x = sum": names, "t | group: x = least": names, "t | group: x = greatest": names,
            "t | group: x = sum a": ["|", ","], "t | group: x = count,": names,
        }.items():
            for piece in [*PIECES, *FAULTS]:
                text = start + " " + piece
                if piece not in allowed:
                    self.points(text, len(start) + 1)
                    self.points(text + " | keep !", len(start) + 1)
                else:
                    # Whatever is told of it now, it is told of something behind it.
                    try:
                        parse(text)
                    except BadText as error:
                        self.assertEqual(error.at, len(text))

    def test_ends_too_early(self):
        for text in ["", " ", "(", "t -", "t last", "t |", "t | where", "t | where not", "t | where a", "t | where a <",
                     "t | where [a = 1", "t | where (a", "t | with", "t | with x", "t | with x =", "t | with x = a +",
                     "t | with x = -", "t | keep", "t | rename", "t | rename a", "t | join", "t | join (u", "t | union",
                     "t | minus", "t | group", "t | group a", "t | group:", "t | group: x", "t | group: x =",
                     "t | group: x = sum", "t | group: x = count,", "(t", "(t | keep a"]:
            self.points(text, len(text))
            self.points(text + "   ", len(text) + 3)

    def test_directly_behind(self):
        for text, at in [
            ("t3", 1), ("t 3", 2), ("sales007", 5), ("t last3", 6), ("t last 3a", 8), ("t - 3a", 5), ("t - 3last", 5),
            ("t | where3", 9), ("t | where a1 = 2", 11), ("t | where a = 1and b = 2", 15), ("t | with x = 5a", 14),
            ("t | with x = today1", 18), ("t | keep a9", 10), ("t | group: x = count1", 20), ("t | with x = 0x", 14),
            ("tA", 1), ("t\u00e9", 1), ("t | keep aB", 10), ("t_a", 1), ("abcdefghi", 0), ("abcdefghi3", 0),
            ("t | wherea = 1", 4), ("t | where a = 1 andb = 2", 16), ("lastt3", 5), ("last", 0),
            ("t | with x = 3" + "a" * 9, 14), ("t | with x = 3" + "0" * 40, 13),
        ]:
            self.points(text, at)

    def test_quotes(self):
        start = "t | where a = "
        for piece in ["'", "'a", "'a b ", "'A'", "'a_b'", "'a\nb'", "'" + "a" * 21 + "'", "'\u00e9'", "'a-b'", "'a | b'"]:
            self.points(start + piece, len(start))
            self.points(start + piece + " and", len(start))
        self.points(start + "'a''", len(start) + 3)
        self.points(start + "'a'b", len(start) + 3)
        self.points(start + "'a' 'b'", len(start) + 4)
        self.points("'", 0)
        self.points("t '", 2)
        self.points("t'", 1)

    def test_numbers(self):
        for piece in ["0", "31", "01", "1" * 41, "99", "10" * 20, "-1", "00"]:
            self.points("t - " + piece, 4)
            self.points("t last " + piece, 7)
        for piece in ["01", "00", "007", "1" * 41, "0" * 41]:
            self.points("t | with x = " + piece, 13)
            self.points("t | with x = -" + piece, 14)

    def test_words_in_the_place_of_names(self):
        for word in WORDS:
            self.points(word, 0)
            self.points("t | keep " + word, 9)
            self.points("t | with " + word + " = 1", 9)
            self.points("t | rename a " + word, 13)
            self.points("t | join " + word, 9)
            self.points("t | group: " + word + " = count", 11)
            self.points("t | group: x = sum " + word, 19)

    def test_the_first_fault_is_told(self):
        for text, at in [
            ("t | keep !", 9), ("! | keep !", 0), ("t t !", 2), ("t ! t t", 2), ("t | keep | !", 9), ("t | keep a, !", 10),
            ("t | where a = 01 = 2", 14), ("t | where a < b < c !", 16), ("t)", 1), ("t | where (a = 1)", 13),
            ("t | where [a] = 1", 12), ("(t] !", 2), ("t | where a < = 1", 14), ("t | where a =< 1", 13),
            ("t | with x = - a", 15), ("t | with x = --5", 14), ("(t) - 4", 4), ("t - 4 - 4", 6), ("t last 4 - 4", 9),
            ("t | group: x = count a", 21), ("t | group a, b: x = count", 11), ("t || keep a", 3), ("t | u", 4),
        ]:
            self.points(text, at)

    def test_second_judge(self):
        """Random rows of tokens and spoilt texts, against a predictive parser of the same grammar."""
        chance = random.Random(5)
        codes = Codes(6)
        seen = {}
        for turn in range(6000):
            if turn % 3 == 0:
                text = " ".join(chance.choice(PIECES) for _ in range(chance.randrange(1, 9)))
            else:
                text = loose(codes.code(2), chance)
                for _ in range(chance.randrange(3)):
                    at = chance.randrange(len(text) + 1)
                    piece = chance.choice([*PIECES, *FAULTS, " ", "x", ""])
                    text = text[:at] + piece + text[at + chance.randrange(3):]
            if len(text) > 250:
                continue
            fault = fault_in(text)
            try:
                parse(text)
                found = None
            except BadText as error:
                found = error.at
            self.assertEqual(found, fault, text)
            seen[fault is None] = seen.get(fault is None, 0) + 1
        self.assertGreater(min(seen.values()), 500)

    def test_each_word_of_codes_that_are_shown(self):
        """Other pieces in the place of each word, ahead of it, glued to it, or none, against the same parser."""
        good = 0
        for shown in (
            "t - 4", "t last 30", "t | where -99 < amount", "t | where shop <= 'a1'", "t | where today = 0 or not a = b and b < 7",
            "t | with x = -5", "t | with x = today - 4 * a + -5", "t | keep a b", "t | rename a b | union u | join u - 4 | minus u last 7",
            "t | group: n = count", "t | group a b: n = count, m = sum a, o = least b, p = greatest b", "t | where not not a < 5 | keep a",
        ):
            words = shown.split(" ")
            self.assertEqual(show(parse(shown)), shown)
            for at in range(len(words)):
                pieces = [*PIECES, *FAULTS, "", "-", "-5", "-0", "- 5", "a:", "a,", ":", "'", "''", "'a", "today", "a b", "count:"]
                for piece in pieces:
                    for some in ([piece], [piece, words[at]], [words[at] + piece], [piece + words[at]]):
                        text = " ".join([*words[:at], *some, *words[at + 1:]])
                        try:
                            tree = parse(text)
                            found = None
                            self.assertEqual(parse(show(tree)), tree)
                            self.assertEqual(parse_and_show(text), (tree, show(tree)))
                            good += 1
                        except BadText as error:
                            found = error.at
                        self.assertEqual(found, fault_in(text), text)
        self.assertGreater(good, 500)


if __name__ == "__main__":
    unittest.main()
