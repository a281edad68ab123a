"""Values, names, days, columns and rows: [2], [4]."""

import unittest

from backfilled.values import is_columns, is_day, is_name, is_row, is_value
from tests_support import ODD_VALUES, WORDS

SHOP = ("shop", "text")
AMOUNT = ("amount", "number")


class ValuesTest(unittest.TestCase):
    def all_are(self, answer, call, values):
        for value in values:
            with self.subTest(value=value):
                self.assertIs(call(value), answer)

    def test_values(self):
        self.all_are(True, is_value, [0, -1, 7, 10 ** 39, -10 ** 39, "", " ", "a", "z9 ", "0", "a" * 20, "last"])
        self.all_are(False, is_value, [*ODD_VALUES, "a" * 21, "A", "a_b", "-", "a\n", "\u00e9", "\u0661", "'"])

    def test_every_character(self):
        good = "abcdefghijklmnopqrstuvwxyz0123456789 "
        for code in range(300):
            self.assertIs(is_value("a" + chr(code) + "b"), chr(code) in good)
            self.assertIs(is_name("a" + chr(code) + "b"), chr(code) in good[:26])

    def test_names(self):
        self.all_are(True, is_name, ["a", "z", "abcdefgh", "day", "number", "text", "lasts", "code", "end", "none"])
        self.all_are(False, is_name, [*ODD_VALUES, "", "abcdefghi", "A", "aB", "a1", "1", "a b", " a", "a_", 1, "\u00e9"])

    def test_barred_words(self):
        self.assertEqual(len(WORDS), 17)
        self.all_are(False, is_name, WORDS)
        self.all_are(True, is_value, WORDS)

    def test_days(self):
        self.all_are(True, is_day, [0, 1, 998, 999])
        self.all_are(False, is_day, [*ODD_VALUES, -1, 1000, "1", 10 ** 40])

    def test_columns(self):
        ten = [("abcdefghij"[k], "text") for k in range(10)]
        self.all_are(True, is_columns, [[SHOP], [AMOUNT, SHOP], ten, [("day", "number")], [("text", "text")]])
        self.all_are(False, is_columns, ODD_VALUES)
        self.all_are(False, is_columns, [
            [], ten + [("k", "text")], (SHOP,), {SHOP: 1}, [list(SHOP)], ["shop"], [("shop",)], [("shop", "text", 1)],
            [SHOP, None], [("Shop", "text")], [("", "text")], [("last", "text")], [("shop", "texts")], [("shop", None)],
            [("shop", True)], [("shop", ["text"])], [(1, "text")], [SHOP, SHOP], [SHOP, ("shop", "number")],
            [("abcdefghi", "text")], [AMOUNT, SHOP, ("amount", "text")],
        ])

    def test_rows(self):
        for row in [("east", 5), ("", -5), ("a" * 20, 0), ("9", 10 ** 39)]:
            self.assertIs(is_row(row, [SHOP, AMOUNT]), True)
        self.assertIs(is_row((1,), [AMOUNT]), True)
        wrong = [
            ("east",), ("east", 5, 5), (), ["east", 5], (5, "east"), ("east", "5"), (5, 5), ("east", True),
            ("east", None), ("East", 5), ("a" * 21, 5), (None, 5), "ab", ("east", 1.0), (["east"], 5), ("east", [5]),
        ]
        for row in [*wrong, *ODD_VALUES]:
            with self.subTest(row=row):
                self.assertIs(is_row(row, [SHOP, AMOUNT]), False)

    def test_by_name(self):
        self.assertTrue(is_name(value="a") and is_value(value="a") and is_day(value=3))
        self.assertTrue(is_columns(value=[SHOP]) and is_row(value=("a",), columns=[SHOP]))

    def test_arguments_are_not_changed(self):
        columns = [SHOP, AMOUNT]
        is_columns(columns)
        is_row(("a", 1), columns)
        self.assertEqual(columns, [SHOP, AMOUNT])


if __name__ == "__main__":
    unittest.main()
