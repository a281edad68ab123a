"""Contents: [4]."""

import unittest

from backfilled.contents import Content
from backfilled.errors import BadColumns, BadRow, UnknownColumn
from tests_support import ODD_VALUES, fields_of

COLUMNS = [("shop", "text"), ("amount", "number")]
ROWS = [("west", 1), ("east", 5), ("east", -7)]


class ContentTest(unittest.TestCase):
    def setUp(self):
        self.content = Content(COLUMNS, ROWS)

    def test_rows_are_sorted_and_each_once(self):
        self.assertEqual(self.content.rows, [("east", -7), ("east", 5), ("west", 1)])
        self.assertEqual(Content(COLUMNS, ROWS[::-1] + ROWS).rows, self.content.rows)
        numbers = Content([("n", "number")], [(3,), (-20,), (0,), (-3,), (10 ** 39,), (100,)])
        self.assertEqual(numbers.rows, [(-20,), (-3,), (0,), (3,), (100,), (10 ** 39,)])
        texts = Content([("t", "text")], [("b",), ("",), ("a9",), ("a a",), ("10",), ("9",), ("ab",), (" ",)])
        self.assertEqual(texts.rows, [("",), (" ",), ("10",), ("9",), ("a a",), ("a9",), ("ab",), ("b",)])

    def test_columns(self):
        self.assertEqual(self.content.columns, COLUMNS)

    def test_by_name(self):
        self.assertEqual(Content(columns=COLUMNS, rows=ROWS), self.content)
        self.assertEqual(self.content(name="shop"), ["east", "east", "west"])

    def test_in(self):
        for row in ROWS:
            self.assertTrue(row in self.content)
        wrong = [("east", 1), ("east",), ("east", 5, 5), ["east", 5], ("east", True), ("east", "5"), "east", 5, ([], {})]
        for row in [*wrong, *ODD_VALUES]:
            with self.subTest(row=row):
                self.assertFalse(row in self.content)
        self.assertFalse((True,) in Content([("n", "number")], [(1,)]))

    def test_length_and_truth(self):
        self.assertEqual((len(self.content), len(Content(COLUMNS, []))), (3, 0))
        self.assertTrue(self.content)
        self.assertFalse(Content(COLUMNS, []))

    def test_equality(self):
        self.assertEqual(self.content, Content(COLUMNS, ROWS[::-1]))
        self.assertNotEqual(self.content, Content(COLUMNS, ROWS[1:]))
        self.assertNotEqual(Content([("a", "text")], []), Content([("b", "text")], []))
        self.assertNotEqual(Content([("a", "text")], []), Content([("a", "number")], []))
        self.assertNotEqual(Content(COLUMNS, []), Content(COLUMNS[::-1], []))
        for value in [*ODD_VALUES, ROWS, self.content.rows]:
            self.assertFalse(self.content == value)
            self.assertTrue(self.content != value)

    def test_minus(self):
        other = Content(COLUMNS, [("east", 5), ("north", 1)])
        self.assertEqual((self.content - other).rows, [("east", -7), ("west", 1)])
        self.assertEqual((other - self.content).rows, [("north", 1)])
        self.assertEqual((self.content - self.content).rows, [])
        self.assertEqual((self.content - other).columns, COLUMNS)

    def test_plus(self):
        other = Content(COLUMNS, [("east", 5), ("north", 1)])
        self.assertEqual((self.content + other).rows, [("east", -7), ("east", 5), ("north", 1), ("west", 1)])
        self.assertEqual(self.content + other, other + self.content)
        self.assertEqual((Content(COLUMNS, []) + other), other)
        self.assertEqual(len(self.content), 3)

    def test_unequal_columns(self):
        others = [Content(COLUMNS[::-1], []), Content(COLUMNS[:1], []), Content([COLUMNS[0], ("amount", "text")], [])]
        for other in [*others, *ODD_VALUES, COLUMNS, ROWS, 5, "a"]:
            self.assertIs(fields_of(self, BadColumns, lambda: self.content - other)["value"], other)
            self.assertIs(fields_of(self, BadColumns, lambda: self.content + other)["value"], other)

    def test_column_by_name(self):
        self.assertEqual(self.content("amount"), [-7, 5, 1])
        self.assertEqual(self.content("shop"), ["east", "east", "west"])
        self.assertEqual(Content(COLUMNS, [])("shop"), [])
        for name in [*ODD_VALUES, "", "Shop", "day", 0, ("shop", "text")]:
            self.assertIs(fields_of(self, UnknownColumn, self.content, name)["name"], name)

    def test_bad_columns(self):
        for columns in [*ODD_VALUES, tuple(COLUMNS), [("Shop", "text")], COLUMNS + COLUMNS, "shop"]:
            self.assertIs(fields_of(self, BadColumns, Content, columns, [])["value"], columns)

    def test_bad_rows(self):
        for rows in [value for value in ODD_VALUES if not isinstance(value, list)] + [tuple(ROWS), "a", 5]:
            self.assertIs(fields_of(self, BadRow, Content, COLUMNS, rows)["value"], rows)
        first, second = ["east", 5], ("east", True)
        for rows in ([*ROWS, first, second], [first, *ROWS, second]):
            self.assertIs(fields_of(self, BadRow, Content, COLUMNS, rows)["value"], first)
        self.assertIs(fields_of(self, BadRow, Content, COLUMNS, [second, first])["value"], second)

    def test_bad_columns_come_first(self):
        self.assertEqual(fields_of(self, BadColumns, Content, [], None), {"value": []})
        self.assertEqual(fields_of(self, BadColumns, Content, None, [None]), {"value": None})

    def test_lists_are_not_kept_or_shared(self):
        columns, rows = list(COLUMNS), list(ROWS)
        content = Content(columns, rows)
        self.assertEqual((columns, rows), (COLUMNS, ROWS))
        columns.clear()
        rows.clear()
        content.columns.clear()
        content.rows.clear()
        content("shop").clear()
        both = content + content
        both.rows.append(1)
        self.assertEqual(content, self.content)
        self.assertEqual((content.columns, len(content.rows), content("amount")), (COLUMNS, 3, [-7, 5, 1]))

    def test_contents_never_change(self):
        for name in ("columns", "rows"):
            with self.assertRaises(AttributeError):
                setattr(self.content, name, [])


if __name__ == "__main__":
    unittest.main()
