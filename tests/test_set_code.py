"""Codes that are set in a log: [5], [8]."""

import unittest

from backfilled.codes import parse
from backfilled.errors import BadCode, BadDay, BadName, BadText, LimitExceeded, NameTaken
from backfilled.logs import Log
from tests_support import ODD_VALUES, fields_of

COLUMNS = [("shop", "text"), ("amount", "number")]


class SetCodeTest(unittest.TestCase):
    def setUp(self):
        self.log = Log()
        self.log.add_table("t", COLUMNS)
        self.log.add_table("w", [("shop", "number")])

    def bad(self, table, text, part, day=0):
        """The code is refused with this part, the text of a code or None, and nothing changes."""
        before = self.log.copy()
        found = fields_of(self, BadCode, self.log.set_code, table, text, day)
        self.assertEqual(found, {"part": None if part is None else parse(part)})
        self.assertEqual((self.log, self.log.tables()), (before, before.tables()))

    def test_errors(self):
        log = self.log
        for name in [*ODD_VALUES, "", "group", "abcdefghi", "A"]:
            self.assertEqual(fields_of(self, BadName, log.set_code, name, "t"), {"value": name})
        self.assertEqual(fields_of(self, NameTaken, log.set_code, "t", "t"), {"name": "t"})
        for text in ODD_VALUES:
            self.assertEqual(fields_of(self, BadText, log.set_code, "u", text), {"at": None})
        self.assertEqual(fields_of(self, BadText, log.set_code, "u", "t |"), {"at": 3})
        self.assertEqual(fields_of(self, BadText, log.set_code, "u", "t" + " " * 600), {"at": None})
        for day in [*ODD_VALUES, -1, 1000, "0"]:
            self.assertEqual(fields_of(self, BadDay, log.set_code, "u", "t", day), {"value": day})
        self.bad("u", "none", "none")
        self.assertEqual(len(log), 2)

    def test_which_error_comes_first(self):
        log = self.log
        self.assertEqual(fields_of(self, BadName, log.set_code, "last", "!", -1), {"value": "last"})
        self.assertEqual(fields_of(self, NameTaken, log.set_code, "t", "!", -1), {"name": "t"})
        self.assertEqual(fields_of(self, BadText, log.set_code, "u", "!", -1), {"at": 0})
        self.assertEqual(fields_of(self, BadDay, log.set_code, "u", "none", -1), {"value": -1})
        for name in "abcdefghijklmnopqr":
            log.add_table("x" + name, COLUMNS)
        self.bad("u", "none", "none")
        self.assertEqual(fields_of(self, LimitExceeded, log.set_code, "u", "t"), {"limit": 20})

    def test_the_first_part_that_is_not_valid(self):
        self.bad("u", "t | where shop = 1 | keep none", "t | where shop = 1")
        self.bad("u", "t | join (t | join w)", "t | join w")
        self.bad("u", "t | union none", "none")
        self.bad("u", "t | keep shop shop | keep shop", "t | keep shop shop")

    def test_days(self):
        self.assertEqual(self.log.set_code("u", "t", 999), 3)
        self.assertEqual(self.log.set_code("u", "t", 0), 4)
        self.assertEqual(self.log.set_code("u", "t"), 5)

    def test_columns_stay(self):
        log = self.log
        log.set_code("u", "t | keep shop")
        self.bad("u", "t", None)
        self.bad("u", "t", None, 999)
        self.bad("u", "t | keep amount", None)
        self.bad("u", "t | rename shop place | keep place", None)
        self.bad("u", "w | keep shop", None)
        log.set_code("u", "t | where amount = 1 | keep shop", 5)
        log.set_code("v", "t")
        self.bad("v", "t | keep amount shop", None)
        log.set_code("v", "t | keep shop amount")
        self.assertEqual((log.columns_at("u"), log.columns_at("v")), ([("shop", "text")], COLUMNS))

    def test_the_part_comes_ahead_of_columns_and_needs(self):
        self.log.set_code("u", "t | keep shop")
        self.bad("u", "u | join none", "none")
        self.bad("u", "t | where none = 1", "t | where none = 1")

    def test_own_earlier_days(self):
        log = self.log
        self.bad("u", "u - 1", "u - 1")
        self.bad("u", "t | union u - 1", "u - 1")
        self.bad("u", "t | union (u last 2 | keep shop amount)", "u last 2")
        log.set_code("u", "t")
        log.set_code("u", "t | union u - 1")
        log.set_code("u", "u - 30 | minus u - 1", 7)
        self.assertEqual(len(log), 5)

    def test_a_table_that_would_need_itself(self):
        self.log.set_code("u", "t")
        for text in ["u", "t | union u", "u last 1 | keep shop amount", "t | union (u last 30 | keep shop amount)",
                     "u - 1 | join u"]:
            self.bad("u", text, None)
            self.bad("u", text, None, 999)

    def test_through_others(self):
        log = self.log
        for name, text in [("a", "t"), ("b", "a"), ("c", "b last 3 | keep shop amount"), ("d", "c | union t")]:
            log.set_code(name, text)
        for text in ["b", "c", "d", "d last 2 | keep shop amount", "t | union (t | minus (d | join t))"]:
            self.bad("a", text, None)
        self.bad("b", "d", None)
        self.bad("c", "d", None)
        log.set_code("a", "d - 1")
        log.set_code("a", "t | union d - 1 | union b - 30")
        log.set_code("e", "a | union d")
        self.bad("a", "e", None)

    def test_by_codes_that_no_longer_hold(self):
        log = self.log
        log.set_code("a", "t")
        log.set_code("b", "a")
        log.set_code("b", "t")
        self.bad("a", "b", None)
        self.bad("a", "b", None, 500)
        log.set_code("c", "t", 10)
        log.set_code("d", "c", 20)
        log.set_code("d", "t", 5)
        self.bad("c", "d", None, 1)
        log.set_code("c", "d - 1", 1)

    def test_a_need_of_an_earlier_day_makes_no_circle(self):
        log = self.log
        log.set_code("a", "t")
        log.set_code("b", "a - 1")
        log.set_code("a", "b")
        log.set_code("c", "a | union b")
        log.set_code("b", "c - 1")
        self.bad("b", "c", None)
        self.bad("b", "a", None)

    def test_many_tables_in_a_row(self):
        log = self.log
        names = ["n" + letter for letter in "abcdefghijklmnopqr"]
        for name, ahead in zip(names, ["t", *names]):
            log.set_code(name, ahead)
        for name in names[:-1]:
            self.bad(name, names[-1], None)
        log.set_code(names[0], names[-1] + " - 1")


if __name__ == "__main__":
    unittest.main()
