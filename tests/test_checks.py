"""Columns and needs of codes: [8]."""

import unittest

from backfilled.checks import columns_of, needs_of
from backfilled.codes import parse
from backfilled.errors import BadCode
from tests_support import Codes, Invalid, ValidCodes, fields_of, naive_columns

S, N = "text", "number"
TABLES = {
    "t": [("shop", S), ("amount", N)],
    "u": [("amount", N), ("shop", S)],
    "v": [("shop", S), ("city", S)],
    "w": [("shop", N), ("amount", N)],
    "d": [("day", N), ("shop", S)],
    "x": [(name, N) for name in "abcdefghi"],
    "y": [(name, N) for name in "abcdefghij"],
    "z": [("b", S)],
}


class ColumnsTest(unittest.TestCase):
    def has(self, text, *columns):
        with self.subTest(text=text):
            self.assertEqual(columns_of(parse(text), TABLES), list(columns))

    def bad(self, text, part=None):
        """The code is not valid, and the part, a text of a code, or else all of it is told."""
        with self.subTest(text=text):
            found = fields_of(self, BadCode, columns_of, parse(text), TABLES)
            self.assertEqual(found, {"part": parse(part or text)})

    def test_document(self):
        sales = {"sales": [("shop", "text"), ("amount", "number")]}
        self.assertEqual(columns_of(parse("sales last 2 | keep shop day"), sales), [("shop", "text"), ("day", "number")])
        found = fields_of(self, BadCode, columns_of, parse("sales | where shop < 3 | keep amount"), sales)
        self.assertEqual(found, {"part": ("where", ("table", "sales", 0), ("<", ("column", "shop"), 3))})

    def test_by_name(self):
        self.assertEqual(columns_of(code=("table", "t", 0), tables=TABLES), TABLES["t"])
        self.assertEqual(needs_of(code=("table", "t", 0), day=3), [("t", 3)])

    def test_sources(self):
        self.has("t", ("shop", S), ("amount", N))
        self.has("t - 30", ("shop", S), ("amount", N))
        self.has("t last 30", ("day", N), ("shop", S), ("amount", N))
        self.has("d", ("day", N), ("shop", S))
        self.has("x last 2", ("day", N), *TABLES["x"])
        self.bad("none")
        self.bad("none - 3")
        self.bad("none last 3")
        self.bad("d last 3")
        self.bad("y last 3")

    def test_where(self):
        for condition in ["amount = 1", "shop = 'a'", "amount < today", "'a' <= shop", "1 = 1", "shop <= shop",
                          "not amount + 1 * 2 - today = -1", "amount = 1 and shop = 'a' or [not 'a' < 'b']"]:
            self.has("t | where " + condition, ("shop", S), ("amount", N))
        for condition in ["shop = 1", "1 = shop", "amount < 'a'", "shop <= today", "none = 1", "none = none", "city = 'a'",
                          "shop + shop = 'a'", "amount + 'a' = 1", "'a' - 1 = 1", "amount * shop = 1", "1 < amount + (1 - shop)",
                          "not shop = 1", "amount = 1 and shop = 1", "shop = 1 and amount = 1", "amount = 1 or none = 1",
                          "none = 1 or amount = 1", "not [amount = 1 and not shop = 1]", "shop + shop = shop + shop"]:
            self.bad("t | where " + condition)

    def test_with(self):
        self.has("t | with x = amount * 2 - today", ("shop", S), ("amount", N), ("x", N))
        self.has("t | with x = shop", ("shop", S), ("amount", N), ("x", S))
        self.has("t | with day = 'a'", ("shop", S), ("amount", N), ("day", S))
        self.has("x | with j = a", *TABLES["x"], ("j", N))
        for step in ["x = none", "x = x", "shop = 'a'", "amount = 1", "x = shop + 1", "x = shop * shop", "x = 'a' + 'b'"]:
            self.bad("t | with " + step)
        self.bad("y | with k = a")
        self.bad("t last 2 | with day = 1")

    def test_keep(self):
        self.has("t | keep amount", ("amount", N))
        self.has("t | keep amount shop", ("amount", N), ("shop", S))
        self.has("y | keep j i h g f e d c b a", *[(name, N) for name in "jihgfedcba"])
        for names in ["none", "amount none", "none amount", "shop shop", "shop amount shop", "x day"]:
            self.bad("t | keep " + names)

    def test_rename(self):
        self.has("t | rename shop place", ("place", S), ("amount", N))
        self.has("t | rename amount day", ("shop", S), ("day", N))
        for names in ["none place", "shop amount", "shop shop", "amount shop", "place shop"]:
            self.bad("t | rename " + names)

    def test_join(self):
        self.has("t | join v", ("shop", S), ("amount", N), ("city", S))
        self.has("v | join t", ("shop", S), ("city", S), ("amount", N))
        self.has("t | join u", ("shop", S), ("amount", N))
        self.has("t | join t - 1", ("shop", S), ("amount", N))
        self.has("x | join (y | keep j a)", *TABLES["x"], ("j", N))
        self.bad("t | join (v | keep city)")
        self.bad("t | join z")
        self.bad("t | join w")
        self.bad("w | join t")
        self.bad("x | join z")
        self.bad("x | join (y | rename b k)")
        self.bad("y | join (y | rename b k)")

    def test_union_and_minus(self):
        for word in ("union", "minus"):
            self.has(f"t | {word} u", ("shop", S), ("amount", N))
            self.has(f"u | {word} t", ("amount", N), ("shop", S))
            self.bad(f"t | {word} w")
            self.bad(f"t | {word} v")
            self.bad(f"t | {word} t last 3")
            self.bad(f"t last 3 | {word} t")
            self.bad(f"t | {word} (t | keep shop)")

    def test_group(self):
        self.has("t | group: n = count", ("n", N))
        self.has("t | group shop: n = count, x = sum amount", ("shop", S), ("n", N), ("x", N))
        self.has("t | group amount shop: x = least shop", ("amount", N), ("shop", S), ("x", S))
        self.has("t | group: x = greatest shop, y = greatest amount", ("x", S), ("y", N))
        self.has("t | group shop: amount = sum amount", ("shop", S), ("amount", N))
        self.has("t | group amount: shop = count", ("amount", N), ("shop", N))
        self.has("y | group a b c d e f g h i: x = sum a", *TABLES["x"], ("x", N))
        for step in ["none: n = count", "shop shop: n = count", "shop: shop = count", "shop: n = count, n = count",
                     ": n = sum shop", ": n = sum none", ": n = least none", ": n = greatest none", ": n = count, m = sum shop",
                     "shop amount: amount = sum amount", ": n = sum n"]:
            self.bad("t | group " + step)
        self.bad("y | group a b c d e f g h i: x = sum a, y = sum b")
        self.bad("y | group a b c d e f g h i j: x = count")

    def test_the_first_part_that_is_not_valid(self):
        self.bad("none | keep a | keep b", "none")
        self.bad("t | keep a | keep b", "t | keep a")
        self.bad("t | keep a | union none", "t | keep a")
        self.bad("t | union none | keep b", "none")
        self.bad("t | union (u | keep a | keep b) | keep c", "u | keep a")
        self.bad("none | join (other)", "none")
        self.bad("t | join (t | join (v | keep none))", "v | keep none")
        self.bad("t | where none = 1 | where shop = 1", "t | where none = 1")
        self.bad("t | join z | minus none", "t | join z")
        self.bad("y | with k = a | with l = a", "y | with k = a")

    def test_new_lists_and_arguments_that_stay(self):
        tables = {"t": [("shop", S), ("amount", N)]}
        for text in ["t", "t | where amount = 1", "t | union t", "t last 1", "t | join t", "t | keep shop"]:
            code = parse(text)
            columns_of(code, tables).clear()
            self.assertNotEqual(columns_of(code, tables), [])
            self.assertEqual((code, tables), (parse(text), {"t": [("shop", S), ("amount", N)]}))

    def test_naive_judge(self):
        valid = 0
        codes = Codes(31)
        tables = {"a": [("a", S), ("b", N)], "b": TABLES["t"], "shop": [("shop", S), ("day", N)], "day": TABLES["w"],
                  "amount": [("amount", N)]}
        makers = [codes.code, ValidCodes(32, TABLES).code_of, ValidCodes(33, tables).code_of]
        for turn in range(3000):
            code = makers[turn % 3](3)
            known = TABLES if turn % 3 == 1 else tables
            try:
                expected = list(naive_columns(code, known).items())
                valid += 1
            except Invalid as error:
                self.assertEqual(fields_of(self, BadCode, columns_of, code, known), {"part": error.args[0]})
                continue
            self.assertEqual(columns_of(code, known), expected)
        self.assertTrue(1800 < valid < 2900)

    def test_deep_trees(self):
        code = ("table", "t", 0)
        condition = ("=", ("column", "amount"), 1)
        for _ in range(3000):
            code = ("union", ("table", "t", 0), code)
            condition = ("and", ("=", ("column", "amount"), 1), ("not", condition))
        code = ("where", code, condition)
        self.assertEqual(columns_of(code, TABLES), TABLES["t"])
        self.assertEqual(needs_of(code, 5), [("t", 5)])


class NeedsTest(unittest.TestCase):
    def needs(self, text, day, *parts):
        with self.subTest(text=text, day=day):
            self.assertEqual(needs_of(parse(text), day), list(parts))

    def test_document(self):
        self.needs("sales last 2 | join (sales - 4)", 3, ("sales", 2), ("sales", 3))

    def test_tables(self):
        self.needs("t", 0, ("t", 0))
        self.needs("t", 999, ("t", 999))
        self.needs("t - 4", 4, ("t", 0))
        self.needs("t - 5", 4)
        self.needs("t - 30", 999, ("t", 969))

    def test_last(self):
        self.needs("t last 1", 0, ("t", 0))
        self.needs("t last 3", 7, ("t", 5), ("t", 6), ("t", 7))
        self.needs("t last 3", 1, ("t", 0), ("t", 1))
        self.needs("t last 30", 0, ("t", 0))
        self.assertEqual(needs_of(parse("t last 30"), 100), [("t", day) for day in range(71, 101)])

    def test_each_once_in_the_order_in_which_they_stand(self):
        self.needs("u | join t", 2, ("u", 2), ("t", 2))
        self.needs("t | join t | union t - 1 | minus t", 2, ("t", 2), ("t", 1))
        self.needs("t - 1 | union t last 3", 5, ("t", 4), ("t", 3), ("t", 5))
        self.needs("t last 3 | union t last 4", 5, ("t", 3), ("t", 4), ("t", 5), ("t", 2))
        self.needs("a | join (b | join (c | join d) | union e) | minus f", 0,
                   ("a", 0), ("b", 0), ("c", 0), ("d", 0), ("e", 0), ("f", 0))
        self.needs("t | where today = 1 | with x = 't' | keep u", 4, ("t", 4))

    def test_new_list(self):
        code = parse("t last 2")
        needs_of(code, 4).clear()
        self.assertEqual(needs_of(code, 4), [("t", 3), ("t", 4)])


if __name__ == "__main__":
    unittest.main()
