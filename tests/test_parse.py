"""Reading codes: [6], [7]."""

import random
import sys
import unittest

from backfilled.codes import parse, show
from backfilled.errors import BadText
from tests_support import Codes, fields_of, loose

T = ("table", "t", 0)
A = ("column", "a")
B = ("column", "b")
C = ("column", "c")


class ParseTest(unittest.TestCase):
    def reads(self, *pairs):
        for text, tree in pairs:
            with self.subTest(text=text):
                self.assertEqual(parse(text), tree)

    def step(self, *pairs):
        self.reads(*[("t | " + text, (tree[0], T, *tree[1:])) for text, tree in pairs])

    def condition(self, *pairs):
        self.step(*[("where " + text, ("where", tree)) for text, tree in pairs])

    def term(self, *pairs):
        self.step(*[("with x = " + text, ("with", "x", tree)) for text, tree in pairs])

    def test_document(self):
        self.reads(
            ("sales | where amount < 9", ("where", ("table", "sales", 0), ("<", ("column", "amount"), 9))),
            ("( sales last 3 ) | group shop : total=sum amount,many=count",
             ("group", ("last", "sales", 3), ("shop",), (("total", "sum", "amount"), ("many", "count", None)))),
        )

    def test_by_name(self):
        self.assertEqual(parse(text="t"), T)
        self.assertEqual(show(code=T), "t")

    def test_sources(self):
        self.reads(
            ("t", T), ("t - 1", ("table", "t", 1)), ("t-30", ("table", "t", 30)), ("t last 1", ("last", "t", 1)),
            ("t last 30", ("last", "t", 30)), ("(t)", T), ("((t - 2))", ("table", "t", 2)), ("day", ("table", "day", 0)),
            ("abcdefgh", ("table", "abcdefgh", 0)), ("(t | keep a) | keep a", ("keep", ("keep", T, ("a",)), ("a",))),
        )

    def test_steps(self):
        self.step(
            ("where a = 1", ("where", ("=", A, 1))),
            ("with x = a", ("with", "x", A)),
            ("keep a", ("keep", ("a",))),
            ("keep a b a", ("keep", ("a", "b", "a"))),
            ("rename a b", ("rename", "a", "b")),
            ("join u", ("join", ("table", "u", 0))),
            ("join u - 3", ("join", ("table", "u", 3))),
            ("union u last 3", ("union", ("last", "u", 3))),
            ("minus (u)", ("minus", ("table", "u", 0))),
            ("minus (u | keep a)", ("minus", ("keep", ("table", "u", 0), ("a",)))),
            ("group: m = count", ("group", (), (("m", "count", None),))),
            ("group a: x = sum b", ("group", ("a",), (("x", "sum", "b"),))),
            ("group a b: x = least b, y = greatest c, z = count",
             ("group", ("a", "b"), (("x", "least", "b"), ("y", "greatest", "c"), ("z", "count", None)))),
        )

    def test_steps_group_from_the_left(self):
        self.reads(
            ("t | union u | minus v", ("minus", ("union", T, ("table", "u", 0)), ("table", "v", 0))),
            ("t | union (u | minus v)", ("union", T, ("minus", ("table", "u", 0), ("table", "v", 0)))),
            ("t | join u - 1 | keep a", ("keep", ("join", T, ("table", "u", 1)), ("a",))),
        )

    def test_conditions(self):
        equal, less, most = ("=", A, 1), ("<", B, 2), ("<=", C, 3)
        self.condition(
            ("a = 1", equal), ("b < 2", less), ("c <= 3", most), ("[a = 1]", equal), ("[[a = 1]]", equal),
            ("not a = 1", ("not", equal)), ("not not a = 1", ("not", ("not", equal))),
            ("a = 1 and b < 2", ("and", equal, less)), ("a = 1 or b < 2", ("or", equal, less)),
            ("a = 1 and b < 2 and c <= 3", ("and", ("and", equal, less), most)),
            ("a = 1 or b < 2 or c <= 3", ("or", ("or", equal, less), most)),
            ("a = 1 and [b < 2 and c <= 3]", ("and", equal, ("and", less, most))),
            ("a = 1 or b < 2 and c <= 3", ("or", equal, ("and", less, most))),
            ("a = 1 and b < 2 or c <= 3", ("or", ("and", equal, less), most)),
            ("[a = 1 or b < 2] and c <= 3", ("and", ("or", equal, less), most)),
            ("not a = 1 and b < 2", ("and", ("not", equal), less)),
            ("not a = 1 or b < 2", ("or", ("not", equal), less)),
            ("not [a = 1 and b < 2]", ("not", ("and", equal, less))),
            ("a = 1 and not b < 2", ("and", equal, ("not", less))),
            ("(a + b) < 2", ("<", ("+", A, B), 2)),
        )

    def test_terms(self):
        self.term(
            ("0", 0), ("7", 7), ("-7", -7), ("- 7", -7), ("-0", 0), ("'abc'", ("text", "abc")), ("''", ("text", "")),
            ("' 9 a'", ("text", " 9 a")), ("'" + "z" * 20 + "'", ("text", "z" * 20)), ("'where'", ("text", "where")),
            ("a", A), ("today", ("today",)), ("(a)", A), ("((a))", A),
            ("a + b", ("+", A, B)), ("a - b", ("-", A, B)), ("a * b", ("*", A, B)),
            ("a + b - c", ("-", ("+", A, B), C)), ("a - b + c", ("+", ("-", A, B), C)),
            ("a - (b + c)", ("-", A, ("+", B, C))), ("a * b * c", ("*", ("*", A, B), C)),
            ("a * (b * c)", ("*", A, ("*", B, C))), ("a + b * c", ("+", A, ("*", B, C))),
            ("a * b + c", ("+", ("*", A, B), C)), ("(a + b) * c", ("*", ("+", A, B), C)),
            ("a - -5", ("-", A, -5)), ("a--5", ("-", A, -5)), ("-5*-6", ("*", -5, -6)), ("-5 - a", ("-", -5, A)),
        )

    def test_numbers_of_forty_digits(self):
        self.term(("9" * 40, int("9" * 40)), ("-" + "9" * 40, -int("9" * 40)), ("1" + "0" * 39, 10 ** 39))

    def test_spaces(self):
        self.reads(
            ("  t  ", T), ("t|keep a", ("keep", T, ("a",))), ("t  |  keep   a  ", ("keep", T, ("a",))),
            ("t|group:x=count,y=sum a", ("group", T, (), (("x", "count", None), ("y", "sum", "a")))),
            ("t|where'a'='b'and a<=1", ("where", T, ("and", ("=", ("text", "a"), ("text", "b")), ("<=", A, 1)))),
            ("t|where not[a=1]", ("where", T, ("not", ("=", A, 1)))), ("t last 3|keep a", ("keep", ("last", "t", 3), ("a",))),
        )

    def test_twenty_open_brackets(self):
        self.assertEqual(parse("(" * 20 + "t" + ")" * 20), T)
        self.assertEqual(parse("t | where " + "[" * 20 + "a = 1" + "]" * 20), ("where", T, ("=", A, 1)))
        self.assertEqual(parse("t | with x = " + "(" * 20 + "a" + ")" * 20), ("with", T, "x", A))
        mixed = "(" * 9 + "t | where " + "[" * 6 + "(" * 5 + "a" + ")" * 5 + " = 1" + "]" * 6 + ")" * 9
        self.assertEqual(parse(mixed), ("where", T, ("=", A, 1)))
        again = "t | where " + " and ".join(["[" * 20 + "a = 1" + "]" * 20] * 3)
        self.assertEqual(parse(again)[2][0], "and")

    def test_twenty_one_open_brackets(self):
        for start, brackets in (("", "("), ("t | where ", "["), ("t | with x = ", "("), ("t | join ", "(")):
            text = start + brackets * 21
            self.assertEqual(fields_of(self, BadText, parse, text), {"at": len(start) + 20})
        mixed = "(" * 9 + "t | where " + "[" * 6 + "(" * 6
        self.assertEqual(fields_of(self, BadText, parse, mixed), {"at": len(mixed) - 1})

    def test_closed_brackets_are_not_open(self):
        start = "(((t))) | where [[a = (1)]] | join "
        self.assertEqual(parse(start + "(" * 20 + "u" + ")" * 20)[2], ("table", "u", 0))
        self.assertEqual(fields_of(self, BadText, parse, start + "(" * 21), {"at": len(start) + 20})

    def test_many_nots(self):
        for many in (101, 140):
            tree = parse("t | where " + "not " * many + "a = 1")[2]
            for _ in range(many):
                self.assertEqual((tree[0], len(tree)), ("not", 2))
                tree = tree[1]
            self.assertEqual(tree, ("=", A, 1))

    def test_long_chains(self):
        self.assert_chain("t", " | keep a", 65, "keep")
        self.assert_chain("t", " | union t", 59, "union")
        self.assert_chain("t | where a = 1", " and a = 1", 58, "and")
        self.assert_chain("t | where a = 1", " or a = 1", 64, "or")
        self.assert_chain("t | with x = a", " + a", 146, "+")
        self.assert_chain("t | with x = a", " * a", 146, "*")

    def assert_chain(self, start, link, many, word):
        text = start + link * many
        self.assertTrue(590 - len(link) < len(text) <= 600)
        tree = parse(text)
        self.assertEqual(show(tree), text)
        tree = tree if start == "t" else tree[-1]
        for _ in range(many):
            self.assertEqual(tree[0], word)
            tree = tree[1]
        self.assertNotEqual(tree[0], word)

    def test_little_room_for_calls(self):
        room = sys.getrecursionlimit()
        depth, frame = 0, sys._getframe()
        while frame:
            depth, frame = depth + 1, frame.f_back
        sys.setrecursionlimit(depth + 150)
        try:
            tree = parse("t | where " + "not " * 140 + "a = 1")
            chain = parse("t | with x = a" + " + a" * 146)
            deep = parse("(" * 20 + "t" + ")" * 20)
            texts = (show(tree), show(chain), show(deep))
        finally:
            sys.setrecursionlimit(room)
        self.assertEqual(texts, ("t | where " + "not " * 140 + "a = 1", "t | with x = a" + " + a" * 146, "t"))

    def test_lengths(self):
        self.assertEqual(parse("t" + " " * 599), T)
        self.assertEqual(parse(" " * 599 + "t"), T)
        for text in ("t" + " " * 600, " " * 601, "!" * 601, "t | " * 200):
            self.assertEqual(fields_of(self, BadText, parse, text), {"at": None})

    def test_shown_form_too_long(self):
        short = "t|with x=a" + "+a" * 146
        self.assertEqual(len(show(parse(short))), 14 + 4 * 146)
        self.assertEqual(fields_of(self, BadText, parse, "t|with x=a" + "+a" * 147), {"at": None})
        exact = "t|with xxx=a" + "+a" * 146
        self.assertEqual(len(show(parse(exact))), 600)
        self.assertEqual(fields_of(self, BadText, parse, "t|with xxxx=a" + "+a" * 146), {"at": None})
        # A fault is told ahead of it.
        self.assertEqual(fields_of(self, BadText, parse, "t|with x=a" + "+a" * 200 + "+"), {"at": 411})
        self.assertEqual(fields_of(self, BadText, parse, "t|with x=a" + "+a" * 200 + "!"), {"at": 410})

    def test_brackets_that_are_not_shown_may_make_it_fit(self):
        self.assertEqual(len("t | with x = " + "(" * 20 + "a" + ")" * 20 + " + a" * 136), 598)
        self.assertEqual(len(show(parse("t | with x = " + "(" * 20 + "a" + ")" * 20 + " + a" * 136))), 558)
        many = "(" * 10 + "a" + ")" * 10 + "+a" * 146
        self.assertEqual(len(show(parse("t|with xxx=" + many))), 600)
        self.assertEqual(fields_of(self, BadText, parse, "t|with xxxx=" + many), {"at": None})
        signs = "-5" + "+- 5" * 99
        self.assertEqual(len(show(parse("t|with xxx=" + signs + "+a" * 22))), 600)
        self.assertEqual(fields_of(self, BadText, parse, "t|with xxxx=" + signs + "+a" * 22), {"at": None})

    def test_spaces_in_texts_count(self):
        many = "and ".join(["a='" + " " * 20 + "'"] * 19)
        self.assertEqual(len(show(parse("t|where " + many))), 594)
        many = "and ".join(["a='" + " " * 20 + "'"] * 20)
        self.assertLess(len("t|where " + many), 600)
        self.assertEqual(fields_of(self, BadText, parse, "t|where " + many), {"at": None})

    def test_any_way_to_write_a_tree(self):
        codes = Codes(11)
        chance = random.Random(12)
        read = 0
        for _ in range(1500):
            tree = codes.code(4)
            text = loose(tree, chance)
            if len(text) <= 600 and len(show(tree)) <= 600:
                try:
                    self.assertEqual(parse(text), tree)
                    read += 1
                except BadText as error:
                    # Only the limit of open brackets may bar it.
                    opened = [text[:k].count("(") + text[:k].count("[") - text[:k].count(")") - text[:k].count("]")
                              for k in range(error.at + 2)]
                    self.assertGreater(max(opened), 20)
        self.assertGreater(read, 700)


if __name__ == "__main__":
    unittest.main()
